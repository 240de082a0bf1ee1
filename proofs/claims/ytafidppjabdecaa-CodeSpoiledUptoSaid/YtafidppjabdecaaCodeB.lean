/-
  Contracts of the writer of package code: a configuration, a program, a script.
-/
import Derived.Test.YtafidppjabdecaaCodeA
namespace Go.Proofs.Ytafidppjabdecaa.CodeB
open Go.ChangeShapes Go.WideShapes Go.ChangeAt Go.RowKit
open PlainT BlkW LawFrame CodeS CodeW CodeA
set_option linter.unusedVariables false
set_option maxHeartbeats 1000000

theorem fr_new {B : Nat} {w : World} (hB : B ≤ w.heap.size) (o : Obj) : Fr TW B w (w.alloc o) := Fr.of_below (below_new w o) hB
theorem flat_len (z : List Int) (h : ∀ x ∈ z, InI x) : (z.flatMap sB).length ≤ z.length * 10 := by
  induction z with
  | nil => simp
  | cons a r ih =>
    have h1 := ih (fun x hx => h x (by simp [hx]))
    have h2 : (sB a).length ≤ 10 := uB_ten (sF_in (h a (by simp)))
    simp only [List.flatMap_cons, List.length_append, List.length_cons]
    omega
theorem lit_signed {B g : Nat} {W : World} {sp : List Int} (h : WS B W g sp) (l : List Int) (n o : Nat) (hn : l.length = n) (ho : W.heap.size = o) (hi : ∀ x ∈ l, InI x) :
    WS B (W.alloc (.cells (l.map (Value.int .i64)).toArray 3)) g sp ∧ Ints .i64 (W.alloc (.cells (l.map (Value.int .i64)).toArray 3)) (some ⟨o, 0, none⟩) n l ∧ Stay TW B (W.alloc (.cells (l.map (Value.int .i64)).toArray 3)) (some ⟨o, 0, none⟩) := by
  subst ho
  exact ⟨h.alloc _, ints_lit .i64 W _ l n hn (fun x hx => wf_of_i64 (hi x hx)), Stay.mem (Mem.new W _ _) (by unfold TW; decide)⟩
theorem ints_count {w : World} {g : Nat} {c0 c1 c2 c3 c4 c5 c6 : Int} {r : List Value} (h : Mem w g 24 (.int .i64 c0 :: .int .i64 c1 :: .int .i64 c2 :: .int .i64 c3 :: .int .i64 c4 :: .int .i64 c5 :: .int .i64 c6 :: r).toArray) (hi : ∀ x ∈ [c3, c4, c5, c6], InI x) : Ints .i64 w (some ⟨g, 3, none⟩) 4 [c3, c4, c5, c6] := by
  refine ⟨rfl, fun x hx => wf_of_i64 (hi x hx), fun _ => ⟨g, 3, rfl, h.lt, fun i hi => ?_⟩⟩
  rw [h.cell]
  have : i = 0 ∨ i = 1 ∨ i = 2 ∨ i = 3 := by omega
  rcases this with rfl | rfl | rfl | rfl <;> rfl
theorem WS.is {B g : Nat} {w : World} {sp : List Int} (h : WS B w g sp) (hl : sp.length ≤ 262144) : Wr B w g sp := by
  obtain ⟨xs, h1, h2, h3⟩ := h
  rcases h2 with rfl | h2
  · exact h1
  · omega
theorem WS.of {B g : Nat} {w : World} {sp : List Int} (h : Wr B w g sp) (hl : sp.length ≤ 262144) : WS B w g sp := ⟨sp, h, .inl rfl, by omega⟩
set_option maxHeartbeats 4000000 in
set_option maxRecDepth 100000 in
theorem a_config (B g : Nat) (sp : List Int) (c0 c1 c2 c3 c4 c5 c6 c7 c8 c9 c10 c11 : Int) (s : Bool) (hi : ∀ x ∈ [c0, c1, c2, c3, c4, c5, c6, c7, c8, c9, c10, c11], InI x) (hsp : sp.length ≤ 1000) (w : World) (h : WS B w g sp) :
    Calls Try.prog 17 #[.pointer (some ⟨g, 0, none⟩), .agg #[.int .i64 c0, .int .i64 c1, .int .i64 c2, .int .i64 c3, .int .i64 c4, .int .i64 c5, .int .i64 c6, .int .i64 c7, .int .i64 c8, .int .i64 c9, .int .i64 c10, .int .i64 c11, .bool s]] w
      fun e w' => e = .returned (.tuple #[]) ∧ WS B w' g (sp ++ [c0, c1, c2, c3, c4, c5, c6, c7, c8, c9, c10, c11].flatMap sB ++ [boolB s]) ∧ Fr TW B w w' := by
  have hB := h.fr_
  have hlen := flat_len _ hi
  have Hlen := Lib.hid hlen
  clear hlen
  have hbx := Mem.new w 24 #[.int .i64 c0, .int .i64 c1, .int .i64 c2, .int .i64 c3, .int .i64 c4, .int .i64 c5, .int .i64 c6, .int .i64 c7, .int .i64 c8, .int .i64 c9, .int .i64 c10, .int .i64 c11, .bool s]
  have hsz := size_new w (.cells #[.int .i64 c0, .int .i64 c1, .int .i64 c2, .int .i64 c3, .int .i64 c4, .int .i64 c5, .int .i64 c6, .int .i64 c7, .int .i64 c8, .int .i64 c9, .int .i64 c10, .int .i64 c11, .bool s] 24)
  have hw1 := h.alloc (.cells #[.int .i64 c0, .int .i64 c1, .int .i64 c2, .int .i64 c3, .int .i64 c4, .int .i64 c5, .int .i64 c6, .int .i64 c7, .int .i64 c8, .int .i64 c9, .int .i64 c10, .int .i64 c11, .bool s] 24)
  have hf0 := fr_new hB (.cells #[.int .i64 c0, .int .i64 c1, .int .i64 c2, .int .i64 c3, .int .i64 c4, .int .i64 c5, .int .i64 c6, .int .i64 c7, .int .i64 c8, .int .i64 c9, .int .i64 c10, .int .i64 c11, .bool s] 24)
  obtain ⟨l1, l2, l3⟩ := lit_signed hw1 [c0, c1, c2] 3 (w.heap.size + 1) rfl hsz (fun x hx => hi x (by simp at hx ⊢; omega))
  have hB1 := hw1.fr_
  have hbx1 := hbx.alloc (.cells #[.int .i64 c0, .int .i64 c1, .int .i64 c2] 3)
  have F1 := Lib.hid (hf0.trans (fr_new hB1 (.cells #[.int .i64 c0, .int .i64 c1, .int .i64 c2] 3)))
  have L1 := Lib.hid l1
  have L2 := Lib.hid l2
  have L3 := Lib.hid l3
  have HBX := Lib.hid hbx1
  have HI := Lib.hid hi
  clear h hsz hw1 hf0 l1 l2 l3 hbx1 hbx hi
  go_enter Try.func17, Try.ntmps17
  go_wp2_with fail
  refine (a_signed B g sp [c0, c1, c2] _ 3 _ _ L1.out L2.out (fun _ => L3.out) (by unfold maxLen; omega)).mono ?_
  rintro e w1 ⟨rfl, h1, hf1⟩
  have hb1 := Mem.fr HBX.out hf1 (by unfold TW; decide)
  have i1 := Lib.hid (ints_count hb1 (fun x hx => HI.out x (by simp at hx ⊢; omega)))
  have s1 := Lib.hid (Stay.mem (T := TW) (B := B) (o := 3) hb1 (by unfold TW; decide))
  have F2 := Lib.hid (F1.out.trans hf1)
  have H1 := Lib.hid h1
  have HB1 := Lib.hid hb1
  clear h1 hf1 hb1
  go_wp2_with fail
  refine (a_signed B g _ [c3, c4, c5, c6] _ 4 _ _ H1.out i1.out (fun _ => s1.out) (by unfold maxLen; omega)).mono ?_
  rintro e w2 ⟨rfl, h2, hf2⟩
  have hb2 := Mem.fr HB1.out hf2 (by unfold TW; decide)
  have d7 : w2.cell? ⟨w.heap.size, 7, none⟩ = some (.int .i64 c7) := hb2.cell 7
  have d8 : w2.cell? ⟨w.heap.size, 8, none⟩ = some (.int .i64 c8) := hb2.cell 8
  have d9 : w2.cell? ⟨w.heap.size, 9, none⟩ = some (.int .i64 c9) := hb2.cell 9
  have d10 : w2.cell? ⟨w.heap.size, 10, none⟩ = some (.int .i64 c10) := hb2.cell 10
  have d11 : w2.cell? ⟨w.heap.size, 11, none⟩ = some (.int .i64 c11) := hb2.cell 11
  obtain ⟨l1, l2, l3⟩ := lit_signed h2 [c7, c8, c9, c10, c11] 5 _ rfl rfl (fun x hx => HI.out x (by simp at hx ⊢; omega))
  have L4 := Lib.hid l1
  have L5 := Lib.hid l2
  have L6 := Lib.hid l3
  have F3 := Lib.hid ((F2.out.trans hf2).trans (fr_new h2.fr_ (.cells #[.int .i64 c7, .int .i64 c8, .int .i64 c9, .int .i64 c10, .int .i64 c11] 3)))
  have HB2 := Lib.hid (hb2.alloc (.cells #[.int .i64 c7, .int .i64 c8, .int .i64 c9, .int .i64 c10, .int .i64 c11] 3))
  clear h2 hf2 hb2 l1 l2 l3
  go_wp2_with fail
  refine (a_signed B g _ [c7, c8, c9, c10, c11] _ 5 _ _ L4.out L5.out (fun _ => L6.out) (by unfold maxLen; omega)).mono ?_
  rintro e w3 ⟨rfl, h3, hf3⟩
  have hb3 := Mem.fr HB2.out hf3 (by unfold TW; decide)
  have esp : sp ++ [c0, c1, c2].flatMap sB ++ [c3, c4, c5, c6].flatMap sB ++ [c7, c8, c9, c10, c11].flatMap sB = sp ++ [c0, c1, c2, c3, c4, c5, c6, c7, c8, c9, c10, c11].flatMap sB := by simp
  rw [esp] at h3
  have hl3 : (sp ++ [c0, c1, c2, c3, c4, c5, c6, c7, c8, c9, c10, c11].flatMap sB).length ≤ 2000 := by
    have := Hlen.out
    simp only [List.length_append]
    simp only [List.length_cons, List.length_nil] at this
    omega
  have F4 := Lib.hid (F3.out.trans hf3)
  clear esp hf3
  cases s
  · have d12 : w3.cell? ⟨w.heap.size, 12, none⟩ = some (.bool false) := hb3.cell 12
    have hwr := WS.is h3 (by omega)
    obtain ⟨v, v', w4, hc0, ⟨Av, nv, cv, rfl⟩, ⟨Aw, nw, cw, rfl⟩, hgl, hf0, hc1, hrun, hwr', hfr'⟩ := push hwr (by omega) 0
    have HR := Lib.hid hrun
    have hfw : w3.frozen? ⟨g, 0, none⟩ = false := by
      obtain ⟨_, _, _, hm, _⟩ := hwr
      exact hm.frozen 0
    clear hrun hwr h3 hb3
    go_wp2_with (at_builtin; refine wpList_append_run rfl _ _ _ rfl HR.out (by rfl) (by rfl) ?_)
    go_end0
    exact ⟨rfl, WS.of hwr' (by simp only [List.length_append] at hl3 ⊢; simp only [List.length_cons, List.length_nil]; omega), F4.out.trans hfr'⟩
  · have d12 : w3.cell? ⟨w.heap.size, 12, none⟩ = some (.bool true) := hb3.cell 12
    have hwr := WS.is h3 (by omega)
    obtain ⟨v, v', w4, hc0, ⟨Av, nv, cv, rfl⟩, ⟨Aw, nw, cw, rfl⟩, hgl, hf0, hc1, hrun, hwr', hfr'⟩ := push hwr (by omega) 1
    have HR := Lib.hid hrun
    have hfw : w3.frozen? ⟨g, 0, none⟩ = false := by
      obtain ⟨_, _, _, hm, _⟩ := hwr
      exact hm.frozen 0
    clear hrun hwr h3 hb3
    go_wp2_with (at_builtin; refine wpList_append_run rfl _ _ _ rfl HR.out (by rfl) (by rfl) ?_)
    go_end0
    exact ⟨rfl, WS.of hwr' (by simp only [List.length_append] at hl3 ⊢; simp only [List.length_cons, List.length_nil]; omega), F4.out.trans hfr'⟩
end Go.Proofs.Ytafidppjabdecaa.CodeB
