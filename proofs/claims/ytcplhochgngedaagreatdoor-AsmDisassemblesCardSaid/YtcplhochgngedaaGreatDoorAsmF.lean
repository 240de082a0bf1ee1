/-
  Contract of Assemble (package asm).
-/
import Derived.Test.YtcplhochgngedaaGreatDoorAsmE
namespace Go.Proofs.YtcplhochgngedaaGreatDoor.AsmF
open Go.ChangeShapes Go.WideShapes Go.ChangeAt Go.RowKit
open PlainT IsaE IsaS BlkW IsaA IsaB IsaF IsaP IsaQ IsaX IsaL AsmS AsmA AsmB IsaR MapW AsmC AsmR AsmE
set_option linter.unusedVariables false
set_option maxHeartbeats 1000000

/-! Assemble, walked. -/
/-- A row of instructions. -/
def InsRow (w : World) (A : Option Addr) (n : Nat) (ps : List (Int × Fields)) : Prop :=
  ps.length = n ∧ (0 < n → ∃ b, A = some ⟨b, 0, none⟩ ∧ b < w.heap.size ∧ ∀ j u, (rowCells ps)[j]? = some u → w.cell? ⟨b, j, none⟩ = some u)
def AsmIs (l : List UInt8) (w : World) (e : Ending) (w' : World) : Prop :=
  Below w.heap.size w w' ∧ match asmV l with | .ok ps => ∃ A c, e = .returned (.tuple #[.slice A ps.length c, .int .i64 0, .int .i64 0]) ∧ ps.length ≤ c ∧ InsRow w' A ps.length ps | .err n er => er ≠ 0 ∧ e = .returned (.tuple #[.slice none 0 0, .int .i64 n, .int .i64 er])
theorem AsmIs.err {l : List UInt8} {w w' : World} {n : Nat} {er : Int} (h : asmV l = .err n er) (hb : Below w.heap.size w w') (h0 : er ≠ 0) : AsmIs l w (.returned (.tuple #[.slice none 0 0, .int .i64 n, .int .i64 er])) w' :=
  ⟨hb, by rw [h]; exact ⟨h0, rfl⟩⟩
theorem row_of_own {w : World} {B : Nat} {A : Option Addr} {n c : Nat} {ps : List (Int × Fields)} (h : w.ownsRow B 40 5 (.slice A n c) n (rowCells ps)) (hn : ps.length = n) : InsRow w A n ps := by
  refine ⟨hn, fun h0 => ?_⟩
  obtain ⟨g, cap, cur, e, _, _, hl, hc⟩ := own_cells h h0
  injection e with e1 _ _
  subst e1
  refine ⟨g, rfl, hl, fun j u hu => ?_⟩
  have hj : j < n * 5 := by
    have := (List.getElem?_eq_some_iff.1 hu).1
    rw [rowCells_length, hn] at this
    exact this
  rw [hc j hj, hu]
theorem a_assemble_long (s : ByteArray) (hs : 65536 < s.size) (hs2 : s.size ≤ 9223372036854775807) (w : World) : Calls Tryz.prog 9 #[.string s] w fun e w' => AsmIs (bts s) w e w' := by
  have HA := Lib.hid (show asmV (bts s) = .err 0 3 by unfold asmV; rw [if_pos (by rw [bytes_len]; exact hs)])
  go_enter Tryz.func9, Tryz.ntmps9
  go_wp2
  go_ret3
  exact AsmIs.err HA.out (Below.refl _ _) (by decide)
theorem asm_begin (w : World) : AsmOk w.heap.size ((w.alloc (.map #[] 0)).alloc (.cells #[.slice none 0 0, .map (some w.heap.size), .slice none 0 0] 48)) (w.heap.size + 1) ⟨[], []⟩ := by
  refine ⟨.slice none 0 0, .slice none 0 0, w.heap.size, ⟨by omega, Nat.le_refl _, ?_, World.ownsRow_nil _ _ _ _, ?_, World.ownsRow_nil _ _ _ _⟩⟩
  · have := Mem.new (w.alloc (.map #[] 0)) 48 #[.slice none 0 0, .map (some w.heap.size), .slice none 0 0]
    rwa [size_new] at this
  · have h0 := (OwnM.made w Tryz.prog 9 3).alloc (.cells #[.slice none 0 0, .map (some w.heap.size), .slice none 0 0] 48)
    obtain ⟨n, D, h1, h2, h3⟩ := h0
    exact ⟨n, D, h1, h2, h3.congr fun k _ => by unfold labC; cases k <;> rfl⟩
theorem a_split (s : ByteArray) (hs : s.size ≤ 100000) (w : World) (h : EnvM w) : Calls Tryz.prog 20 #[.string s, .string ⟨#[10]⟩] w fun e w' =>
    e = .returned (.slice (some ⟨w.heap.size, 0, none⟩) (Lib.splitB ⟨#[10]⟩ 0 (Lib.countB s ⟨#[10]⟩) s).length (Lib.splitB ⟨#[10]⟩ 0 (Lib.countB s ⟨#[10]⟩) s).length) ∧ w' = w.alloc (.cells ((Lib.splitB ⟨#[10]⟩ 0 (Lib.countB s ⟨#[10]⟩) s).map Value.string).toArray 9) := by
  obtain ⟨m, hm⟩ := h.cell
  have hl := (split_lines s).2
  rw [hl]
  exact Tryz.strings_Split s ⟨#[10]⟩ m w (by omega) hm (by decide)
theorem pieces_bound (s : ByteArray) : ∀ x ∈ Lib.splitB ⟨#[10]⟩ 0 (Lib.countB s ⟨#[10]⟩) s, x.size ≤ s.size := by
  have key : ∀ (r cur : List UInt8), ∀ y ∈ cutFrom cur r, y.length ≤ cur.length + r.length := by
    intro r
    induction r with
    | nil => intro cur y hy; simp [cutFrom] at hy; rw [hy]; simp
    | cons c r ih =>
      intro cur y hy
      unfold cutFrom at hy
      split at hy
      · rcases List.mem_cons.1 hy with rfl | hy
        · simp
        · have := ih [] y hy; simp at this ⊢; omega
      · have := ih _ y hy; simp at this ⊢; omega
  intro x hx
  have h1 : bts x ∈ pieces (bts s) := by
    rw [← (split_lines s).1]
    exact List.mem_map_of_mem hx
  have := key (bts s) [] (bts x) h1
  rw [bytes_len, bytes_len] at this
  simpa using this
theorem a_assemble_short (s : ByteArray) (hs : s.size ≤ 65536) (w : World) (h : EnvM w) : Calls Tryz.prog 9 #[.string s] w fun e w' => AsmIs (bts s) w e w' := by
  have HA := Lib.hid (show asmV (bts s) = match readAll (pieces (bts s)) 1 ⟨[], []⟩ with | .err n e => .err n e | .ok st => setTargets st.labels 0 st.items by unfold asmV; rw [if_neg (by rw [bytes_len]; omega)]; rfl)
  obtain ⟨hP, hPl⟩ := split_lines s
  have hPb := pieces_bound s
  have hPn : (Lib.splitB ⟨#[10]⟩ 0 (Lib.countB s ⟨#[10]⟩) s).length ≤ 65537 := by
    rw [hPl]
    have := Lib.countB_le ⟨#[10]⟩ (by decide) _ s (Nat.le_refl _)
    omega
  have hsp := a_split s (by omega)
  generalize Lib.splitB ⟨#[10]⟩ 0 (Lib.countB s ⟨#[10]⟩) s = P at hP hPb hPn hsp
  have HP := Lib.hid hP
  have HPB := Lib.hid hPb
  have HSP := Lib.hid hsp
  clear hP hPl hPb hsp
  go_enter Tryz.func9, Tryz.ntmps9
  have hmm := @run_makeMap Tryz.prog
  go_wp2_with fail
  have hE2 := (h.alloc (.map #[] 0)).alloc (.cells #[.slice none 0 0, .map (some w.heap.size), .slice none 0 0] 48)
  refine (HSP.out _ hE2).mono ?_
  rintro e w1 ⟨rfl, rfl⟩
  have hb0 := (below_new2 w (.map #[] 0) (.cells #[.slice none 0 0, .map (some w.heap.size), .slice none 0 0] 48)).alloc (by rw [size_new, size_new]; omega) (.cells (P.map Value.string).toArray 9)
  have ha0 := (asm_begin w).below (below_new ((w.alloc (.map #[] 0)).alloc (.cells #[.slice none 0 0, .map (some w.heap.size), .slice none 0 0] 48)) (.cells (P.map Value.string).toArray 9))
  have hL0 := mem_new2 w (.map #[] 0) (.cells #[.slice none 0 0, .map (some w.heap.size), .slice none 0 0] 48) 9 (P.map Value.string).toArray
  clear hE2 hmm
  go_wp2
  go_loopw [19] (fun i wr => ∃ (k : Nat) (st : St), k ≤ P.length ∧ i = .int .i64 k ∧ AsmOk w.heap.size wr (w.heap.size + 1) st ∧ StOk st ∧ Hid (st.labels.length ≤ k) ∧ Mem wr (w.heap.size + 2) 9 (P.map Value.string).toArray ∧ Hid (readAll (P.map bts) 1 ⟨[], []⟩ = readAll ((P.map bts).drop k) (k + 1) st) ∧ Below w.heap.size w wr) (fun i _ => P.length - (intOf i).toNat)
  case atStart => exact ⟨0, ⟨[], []⟩, by omega, rfl, ha0, ⟨by simp, by simp, by simp⟩, Nat.le_refl _, hL0, rfl, hb0⟩
  case round =>
    obtain ⟨k, st, hk, rfl, ha, hst, hll, hLn, hr, hb⟩ := hrel
    clear ha0 hL0 hb0
    have hE := h.below hb
    by_cases hlt : k < P.length
    · obtain ⟨x, hx⟩ : ∃ x, P[k]? = some x := ⟨P[k], List.getElem?_eq_getElem hlt⟩
      have hxb := HPB.out x (List.mem_of_getElem? hx)
      have hxc : wr.cell? ⟨w.heap.size + 2, k, none⟩ = some (.string x) := by
        rw [hLn.cell k]
        simp [hx]
      have HX := Lib.hid (show (P.map bts)[k]? = some (bts x) by rw [List.getElem?_map, hx]; rfl)
      have hst1 := hst.1
      have hll' := hll.out
      clear hx
      go_wp2_with fail
      have hrd := a_read4 w.heap.size wr (w.heap.size + 1) st (k + 1) (by omega) x (by omega) hE ha hst1 (by omega)
      rw [show (((k + 1 : Nat) : Int)) = (k : Int) + 1 by omega] at hrd
      refine hrd.mono ?_
      rintro e w2 ⟨hb2, hk2, h2⟩
      have hb3 := hb.trans hb2
      cases hs : stepL st (k + 1) (bts x) with
      | err l er =>
        rw [hs] at h2
        obtain ⟨h0, rfl⟩ := h2
        have hq : (er != 0) = true := by rw [bne_iff_ne]; exact h0
        have hA := Lib.hid (show asmV (bts s) = .err (k + 1) er by rw [HA.out, ← HP.out, hr.out, readAll_drop HX.out, hs, stepL_line hs])
        have H0 := Lib.hid h0
        clear hs hrd hr ha hb hb2 h0 hst hxc hLn hk2 hst1 hll'
        go_wp2
        go_ret3
        have := AsmIs.err hA.out hb3 H0.out
        rw [show (((k + 1 : Nat) : Int)) = (k : Int) + 1 by omega] at this
        exact this
      | ok st' =>
        rw [hs] at h2
        obtain ⟨rfl, h2⟩ := h2
        obtain ⟨hst', hll2⟩ := stepL_ok hst hs
        have hr2 := Lib.hid (show readAll (P.map bts) 1 ⟨[], []⟩ = readAll ((P.map bts).drop (k + 1)) (k + 1 + 1) st' by rw [hr.out, readAll_drop HX.out, hs])
        have hL2 : Mem w2 (w.heap.size + 2) 9 (P.map Value.string).toArray := hk2 _ _ _ hLn
        have hll3 := Lib.hid (show st'.labels.length ≤ k + 1 by omega)
        clear hs hrd hr ha hb hb2 hst hxc hLn hk2 hst1 hll' hll2
        go_wp2
        go_roundw
        case rel => exact ⟨k + 1, st', by omega, by go_num, h2, hst', hll3, hL2, hr2, hb3⟩
        case measure => simp [intOf]; omega
    · have hr2 := Lib.hid (show readAll (pieces (bts s)) 1 ⟨[], []⟩ = .ok st by rw [← HP.out, hr.out, List.drop_eq_nil_of_le (by rw [List.length_map]; omega)]; rfl)
      have hA := Lib.hid (show asmV (bts s) = setTargets st.labels 0 st.items by rw [HA.out, hr2.out])
      obtain ⟨vp, vj, m, ha'⟩ := ha
      clear hr
      go_wp2_with fail
      refine (a_resolve w.heap.size wr (w.heap.size + 1) st.labels (jumpsOf 0 st.items) (st.items.map insOfItem) vp vj m ha' (by have := jumpsOf_le st.items 0; have := hst.1; omega) (by rw [List.length_map]; have := hst.1; omega)
        (fun x hx => by
          obtain ⟨h1, h2, y, hy, e⟩ := jumpsOf_mem st.items 0 x hx
          have := hst.2.1 y hy
          rw [List.length_map]
          exact ⟨by omega, by rw [← e]; omega⟩)
        (fun n p hp => by
          obtain ⟨y, hy, e⟩ := lookN_mem hp
          have := hst.2.2 y hy
          omega)).mono ?_
      rintro e w2 ⟨hb2, h2⟩
      have hb3 := hb.trans hb2
      have hrj := resJ_items st.labels st.items []
      simp only [List.length_nil, List.nil_append] at hrj
      rw [hrj] at h2
      cases hs : setTargets st.labels 0 st.items with
      | err l er =>
        rw [hs] at h2
        obtain ⟨h0, rfl⟩ := h2
        have hq : (er != 0) = true := by rw [bne_iff_ne]; exact h0
        have hA2 := Lib.hid (hA.out.trans hs)
        have H0 := Lib.hid h0
        clear hs hrj h0 ha' hb hb2 hLn
        go_wp2
        go_ret3
        exact AsmIs.err hA2.out hb3 H0.out
      | ok ps =>
        rw [hs] at h2
        obtain ⟨rfl, vp2, vj2, m2, h2⟩ := h2
        have hA2 := Lib.hid (hA.out.trans hs)
        obtain ⟨A, c, rfl, hc1, hc2⟩ := own_slice h2.prog
        have hrow := row_of_own h2.prog rfl
        have h0 : w2.cell? ⟨w.heap.size + 1, 0, none⟩ = some (.slice A ps.length c) := h2.mem.cell 0
        clear hs hrj ha' hb hb2 h2 hLn
        go_wp2
        go_ret3
        refine ⟨hb3, ?_⟩
        rw [hA2.out]
        exact ⟨A, c, rfl, hc1, hrow⟩
/-- Assemble returns the program, or the line and the error, of the document. -/
theorem a_assemble (s : ByteArray) (hs : s.size ≤ 9223372036854775807) (w : World) (h : EnvM w) : Calls Tryz.prog 9 #[.string s] w fun e w' => AsmIs (bts s) w e w' := by
  by_cases h1 : s.size ≤ 65536
  · exact a_assemble_short s h1 w h
  · exact a_assemble_long s (by omega) hs w
end Go.Proofs.YtcplhochgngedaaGreatDoor.AsmF
