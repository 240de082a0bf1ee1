/-
  The sanity check's contract.
-/
import Derived.Test.YtafidppjabdecaaCodeU
import Derived.Deep.DeepCutAuto
namespace Go.Proofs.Ytafidppjabdecaa.CodeV
open Go.ChangeShapes Go.WideShapes Go.ChangeAt Go.RowKit
open PlainT BlkW LawFrame CodeS CodeW CodeA CodeP CodeO CodeI CodeH CodeD CodeT CodeU
open CodeJ (PV)
open CodeM (IsV)
set_option linter.unusedVariables false
set_option maxHeartbeats 1000000

theorem below_of_old {w w1 w2 : World} (h : Below w.heap.size w w1) (k : Below w1.heap.size w1 w2) : Below w.heap.size w w2 := h.trans (k.mono h.size)
/-- The result of a decoding. -/
theorem dec_yes {l : List Int} {w w' : World} {e : Ending} {s : Scr} (h : DecIs l w e w') (hl : l.length ≤ 262144) (hb : ∀ b ∈ l, InB b) (hs : decP l = some s) : Below w.heap.size w w' ∧ ∃ v, e = .returned (.tuple #[v, .int .i64 0]) ∧ Holds w' w'.heap.size s v := by
  obtain ⟨h1, h2⟩ := h
  refine ⟨h1, ?_⟩
  rcases h2 with ⟨h3, _⟩ | ⟨_, ⟨h3, _⟩ | ⟨s', v, h3, h4, h5⟩⟩
  · omega
  · rw [hs] at h3; cases h3
  · rw [hs] at h3
    injection h3 with h3
    subst h3
    exact ⟨v, h4, holds_of h5 (dec_of hb hs).2⟩
theorem bytes0_in : ∀ b ∈ [83, 84, 88, 49, 0, 0, 0, 0, 0, 0, 0, 0, 0, 0, 0, 0, 0, 1, 172, 2, 0, 1, 1], InB b := by
  have := bytes_byte scr0 scr0_ok
  rw [bytes0] at this
  exact this
theorem dec0 : decP [83, 84, 88, 49, 0, 0, 0, 0, 0, 0, 0, 0, 0, 0, 0, 0, 0, 1, 172, 2, 0, 1, 1] = some scr0 := by
  have := dec_bytes scr0 scr0_ok
  rw [bytes0] at this
  exact this
theorem Holds.agg {w : World} {B : Nat} {s : Scr} {v : Value} (h : Holds w B s v) : ∃ x0 x1 x2 x3 x4 x5 x6 x7 x8 x9 x10 x11 b Ai ni ci Ap np cp Ak nk ck,
    v = .agg #[.int .i64 x0, .int .i64 x1, .int .i64 x2, .int .i64 x3, .int .i64 x4, .int .i64 x5, .int .i64 x6, .int .i64 x7, .int .i64 x8, .int .i64 x9, .int .i64 x10, .int .i64 x11, .bool b, .slice Ai ni ci, .slice Ap np cp, .slice Ak nk ck] := by
  obtain ⟨x0, x1, x2, x3, x4, x5, x6, x7, x8, x9, x10, x11, Ai, ni, ci, Ap, np, cp, Ak, nk, ck, e1, e2, _⟩ := h
  exact ⟨_, _, _, _, _, _, _, _, _, _, _, _, _, _, _, _, _, _, _, _, _, _, e2⟩
set_option maxHeartbeats 8000000 in
set_option maxRecDepth 100000 in
theorem a_awake (w : World) : Calls Try.prog 9 #[] w fun e w' => e = .returned (.bool true) ∧ Below w.heap.size w w' := by
  obtain ⟨w1, hw1⟩ : ∃ w1, w1 = ((w.alloc (.cells #[.int .u64 300] 46)).alloc (.cells #[.int .i64 (-1)] 3)).alloc (.cells #[.int .i64 0, .int .i64 0, .int .i64 0, .int .i64 0, .int .i64 0, .int .i64 0, .int .i64 0, .int .i64 0, .int .i64 0, .int .i64 0, .int .i64 0, .int .i64 0, .bool false, .slice (some ⟨w.heap.size, 0, none⟩) 1 1, .slice none 0 0, .slice (some ⟨w.heap.size + 1, 0, none⟩) 1 1] 29) := ⟨_, rfl⟩
  have hb1 : Below w.heap.size w w1 := hw1 ▸ below_new3 w _ _ _
  have hm1 : Mem w1 (w.heap.size + 2) 29 #[.int .i64 0, .int .i64 0, .int .i64 0, .int .i64 0, .int .i64 0, .int .i64 0, .int .i64 0, .int .i64 0, .int .i64 0, .int .i64 0, .int .i64 0, .int .i64 0, .bool false, .slice (some ⟨w.heap.size, 0, none⟩) 1 1, .slice none 0 0, .slice (some ⟨w.heap.size + 1, 0, none⟩) 1 1] := hw1 ▸ mem_new2 w _ _ _ _
  have i1 : Ints .u64 w1 (some ⟨w.heap.size, 0, none⟩) 1 [300] := hw1 ▸ Ints.alloc (Ints.alloc (ints_lit .u64 w 46 [300] 1 rfl (by simp only [List.mem_singleton]; rintro x rfl; decide)) _) _
  have i2 : Ints .i64 w1 (some ⟨w.heap.size + 1, 0, none⟩) 1 [-1] := by
    have := Ints.alloc (ints_lit .i64 (w.alloc (.cells #[.int .u64 300] 46)) 3 [-1] 1 rfl (by simp only [List.mem_singleton]; rintro x rfl; decide)) (.cells #[.int .i64 0, .int .i64 0, .int .i64 0, .int .i64 0, .int .i64 0, .int .i64 0, .int .i64 0, .int .i64 0, .int .i64 0, .int .i64 0, .int .i64 0, .int .i64 0, .bool false, .slice (some ⟨w.heap.size, 0, none⟩) 1 1, .slice none 0 0, .slice (some ⟨w.heap.size + 1, 0, none⟩) 1 1] 29)
    rw [size_new] at this
    rw [hw1]
    exact this
  have hh1 : Holds w1 w1.heap.size scr0 (.agg #[.int .i64 0, .int .i64 0, .int .i64 0, .int .i64 0, .int .i64 0, .int .i64 0, .int .i64 0, .int .i64 0, .int .i64 0, .int .i64 0, .int .i64 0, .int .i64 0, .bool false, .slice (some ⟨w.heap.size, 0, none⟩) 1 1, .slice none 0 0, .slice (some ⟨w.heap.size + 1, 0, none⟩) 1 1]) :=
    ⟨0, 0, 0, 0, 0, 0, 0, 0, 0, 0, 0, 0, _, 1, 1, _, 0, 0, _, 1, 1, rfl, rfl, scr0_ok.cfg.2, ⟨Nat.le_refl _, by simp [maxLen], i1⟩, ⟨Nat.le_refl _, by simp [maxLen], rfl, fun h => absurd h (by omega)⟩, ⟨Nat.le_refl _, by simp [maxLen], i2⟩⟩
  have HW := Lib.hid hw1
  have HB1 := Lib.hid hb1
  have HM1 := Lib.hid hm1
  have HH1 := Lib.hid hh1
  clear hb1 hm1 i1 i2 hh1 hw1
  go_enter Try.func9, Try.ntmps9
  go_wp2_with fail
  rw [← HW.out]
  clear HW
  refine (enc_holds HH1.out _ bytes0).mono ?_
  rintro e w2 ⟨hb2, h2⟩
  rcases h2 with ⟨h2, _⟩ | ⟨_, A, c, rfl, hrw⟩
  · exact absurd h2 (by decide)
  have hcl := hrw.cells (by decide)
  obtain ⟨g, cap, e0, _, hg2, hcc⟩ := hcl
  injection e0 with e1 _ e3
  subst e1 e3
  have hi2 := (hrw.ints bytes0_in).2
  obtain ⟨_, _, e0, hl1, hl2⟩ := hrw.slice
  injection e0 with e1 _ e3
  subst e1 e3
  have HI2 := Lib.hid hi2
  have HM2 := Lib.hid (HM1.out.below hb2 HM1.out.lt)
  have HH2 := Lib.hid (Holds.upto HH1.out (.of_below hb2))
  have HB2 := Lib.hid (below_of_old HB1.out hb2)
  have HC := Lib.hid hcc
  clear hcc hrw hi2 hb2 HB1 HM1 HH1
  go_wp2_with fail
  refine (a_decode _ _ _ _ _ hl1 hl2 HI2.out).mono ?_
  rintro e w3 hd
  obtain ⟨hb3, v, rfl, hh3⟩ := dec_yes hd (by decide) bytes0_in dec0
  have HM3 := Lib.hid (HM2.out.below hb3 HM2.out.lt)
  have HH3 := Lib.hid (Holds.upto HH2.out (.of_below hb3))
  have HB3 := Lib.hid (below_of_old HB2.out hb3)
  have d18 : w3.cell? ⟨g, 18, none⟩ = some (.int .u8 172) := (hb3.cell (p := ⟨g, 18, none⟩) hg2).trans (HC.out 18 (by decide))
  have d19 : w3.cell? ⟨g, 19, none⟩ = some (.int .u8 2) := (hb3.cell (p := ⟨g, 19, none⟩) hg2).trans (HC.out 19 (by decide))
  have hg3 : g < w3.heap.size := by have := hb3.size; omega
  have HX := Lib.hid hh3
  obtain ⟨x0, x1, x2, x3, x4, x5, x6, x7, x8, x9, x10, x11, b, Ai, ni, ci, Ap, np, cp, Ak, nk, ck, rfl⟩ := Holds.agg hh3
  have q0 : w3.cell? ⟨w.heap.size + 1 + 1, 0, none⟩ = some (.int .i64 0) := HM3.out.cell 0
  have q1 : w3.cell? ⟨w.heap.size + 1 + 1, 1, none⟩ = some (.int .i64 0) := HM3.out.cell 1
  have q2 : w3.cell? ⟨w.heap.size + 1 + 1, 2, none⟩ = some (.int .i64 0) := HM3.out.cell 2
  have q3 : w3.cell? ⟨w.heap.size + 1 + 1, 3, none⟩ = some (.int .i64 0) := HM3.out.cell 3
  have q4 : w3.cell? ⟨w.heap.size + 1 + 1, 4, none⟩ = some (.int .i64 0) := HM3.out.cell 4
  have q5 : w3.cell? ⟨w.heap.size + 1 + 1, 5, none⟩ = some (.int .i64 0) := HM3.out.cell 5
  have q6 : w3.cell? ⟨w.heap.size + 1 + 1, 6, none⟩ = some (.int .i64 0) := HM3.out.cell 6
  have q7 : w3.cell? ⟨w.heap.size + 1 + 1, 7, none⟩ = some (.int .i64 0) := HM3.out.cell 7
  have q8 : w3.cell? ⟨w.heap.size + 1 + 1, 8, none⟩ = some (.int .i64 0) := HM3.out.cell 8
  have q9 : w3.cell? ⟨w.heap.size + 1 + 1, 9, none⟩ = some (.int .i64 0) := HM3.out.cell 9
  have q10 : w3.cell? ⟨w.heap.size + 1 + 1, 10, none⟩ = some (.int .i64 0) := HM3.out.cell 10
  have q11 : w3.cell? ⟨w.heap.size + 1 + 1, 11, none⟩ = some (.int .i64 0) := HM3.out.cell 11
  have q12 : w3.cell? ⟨w.heap.size + 1 + 1, 12, none⟩ = some (.bool false) := HM3.out.cell 12
  have q13 : w3.cell? ⟨w.heap.size + 1 + 1, 13, none⟩ = some (.slice (some ⟨w.heap.size, 0, none⟩) 1 1) := HM3.out.cell 13
  have q14 : w3.cell? ⟨w.heap.size + 1 + 1, 14, none⟩ = some (.slice none 0 0) := HM3.out.cell 14
  have q15 : w3.cell? ⟨w.heap.size + 1 + 1, 15, none⟩ = some (.slice (some ⟨w.heap.size + 1, 0, none⟩) 1 1) := HM3.out.cell 15
  have hq3 : w.heap.size + 1 + 1 < w3.heap.size := HM3.out.lt
  clear hd hb3 hh3 HC HM2 HH2 HB2 HI2 hg2
  go_wp2_with fail
  have hN := (Old.refl w3).alloc (.cells #[.int .i64 x0, .int .i64 x1, .int .i64 x2, .int .i64 x3, .int .i64 x4, .int .i64 x5, .int .i64 x6, .int .i64 x7, .int .i64 x8, .int .i64 x9, .int .i64 x10, .int .i64 x11, .bool b, .slice Ai ni ci, .slice Ap np cp, .slice Ak nk ck] 29)
  refine (k_script _ _ scr0 _ _ _ (Holds.upto HX.out hN) (Holds.upto HH3.out hN)).mono ?_
  rintro e w5 ⟨rfl, hb5⟩
  go_wp2
  go_ret
  exact ⟨rfl, below_of_old (HB3.out.alloc HB3.out.size _) hb5⟩
end Go.Proofs.Ytafidppjabdecaa.CodeV
