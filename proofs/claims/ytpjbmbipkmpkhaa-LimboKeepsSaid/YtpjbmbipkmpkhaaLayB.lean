/-
  Contracts of package layout: Check, Blocks; and of its reference: Check, Blocks.
-/
import Derived.Test.YtpjbmbipkmpkhaaLayA
namespace Go.Proofs.Ytpjbmbipkmpkhaa.LayB
open Go.ChangeShapes Go.WideShapes Go.ChangeAt Go.RowKit
open PlainT BlkW LayS LayA
set_option linter.unusedVariables false
set_option maxHeartbeats 1000000

set_option maxRecDepth 100000 in
theorem a_check (q : Cfg) (w : World) : Calls Try.prog 100 #[cfgV q] w fun e w' => e = .returned (.int .i64 (chkV q)) ∧ Below w.heap.size w w' := by
  have hM := Mem.new w TC (cells q)
  have HM := Lib.hid hM
  have HB := Lib.hid (below_new w (.cells (cells q) TC))
  clear hM
  obtain ⟨v, hv⟩ : ∃ v, chkV q = v := ⟨_, rfl⟩
  rw [hv]
  unfold chkV at hv
  cases h1 : inB q.w 1 64 with
  | false =>
    rw [h1] at hv
    simp only [Bool.false_and, Bool.false_eq_true, if_false] at hv
    subst hv
    go_enter Try.func100, Try.ntmps100
    go_wp2_with (go_at_call 121; (with_reducible refine (a_within _ _ _ _).mono ?_); rintro e w1 ⟨rfl, rfl⟩)
    go_ret
    exact ⟨rfl, HB.out⟩
  | true =>
  cases h2 : inB q.o 1 64 with
  | false =>
    rw [h1, h2] at hv
    simp only [Bool.and_false, Bool.false_eq_true, if_false] at hv
    subst hv
    go_enter Try.func100, Try.ntmps100
    go_wp2_with (go_at_call 121; (with_reducible refine (a_within _ _ _ _).mono ?_); rintro e w1 ⟨rfl, rfl⟩)
    go_ret
    exact ⟨rfl, HB.out⟩
  | true =>
  rw [h1, h2] at hv
  simp only [Bool.and_true, if_true] at hv
  have HI := Lib.hid (inB_iff.1 h1)
  cases h3 : heapB q with
  | false =>
    rw [h3] at hv
    simp only [Bool.false_eq_true, if_false] at hv
    subst hv
    go_enter Try.func100, Try.ntmps100
    go_wp2_with (first
      | (go_at_call 121; (with_reducible refine (a_within _ _ _ _).mono ?_); rintro e w1 ⟨rfl, rfl⟩)
      | (go_at_call 122; (with_reducible refine (a_heap q HI.out.1 HI.out.2 _).mono ?_); rintro e w2 ⟨rfl, hb2⟩; have HB2 := Lib.hid (HB.out.trans (hb2.mono (by rw [size_new]; omega))); have HM2 := Lib.hid (HM.out.below hb2 HM.out.lt); clear hb2; obtain ⟨d0, d1, d2, d3, d4, d5, d6, d7, d8, d9, d10, d11, d12⟩ := box_cells HM2.out))
    go_ret
    exact ⟨rfl, HB2.out⟩
  | true =>
  rw [h3] at hv
  simp only [if_true] at hv
  cases h4 : logsB q with
  | false =>
    rw [h4] at hv
    simp only [Bool.false_eq_true, if_false] at hv
    subst hv
    go_enter Try.func100, Try.ntmps100
    go_wp2_with (first
      | (go_at_call 121; (with_reducible refine (a_within _ _ _ _).mono ?_); rintro e w1 ⟨rfl, rfl⟩)
      | (go_at_call 122; (with_reducible refine (a_heap q HI.out.1 HI.out.2 _).mono ?_); rintro e w2 ⟨rfl, hb2⟩; have HB2 := Lib.hid (HB.out.trans (hb2.mono (by rw [size_new]; omega))); have HM2 := Lib.hid (HM.out.below hb2 HM.out.lt); clear hb2; obtain ⟨d0, d1, d2, d3, d4, d5, d6, d7, d8, d9, d10, d11, d12⟩ := box_cells HM2.out)
      | (go_at_call 123; (with_reducible refine (a_logs q _).mono ?_); rintro e w3 ⟨rfl, hb3⟩; have HB3 := Lib.hid (HB2.out.trans (hb3.mono HB2.out.size)); have HM3 := Lib.hid (HM2.out.below hb3 HM2.out.lt); clear hb3 d0 d1 d2 d3 d4 d5 d6 d7 d8 d9 d10 d11 d12; obtain ⟨d0, d1, d2, d3, d4, d5, d6, d7, d8, d9, d10, d11, d12⟩ := box_cells HM3.out))
    go_ret
    exact ⟨rfl, HB3.out⟩
  | true =>
  rw [h4] at hv
  simp only [if_true] at hv
  cases h5 : inB q.k 0 1099511627776
  all_goals
    rw [h5] at hv
    simp only [Bool.false_eq_true, if_false, if_true] at hv
    subst hv
    go_enter Try.func100, Try.ntmps100
    go_wp2_with (first
      | (go_at_call 121; (with_reducible refine (a_within _ _ _ _).mono ?_); rintro e w1 ⟨rfl, rfl⟩)
      | (go_at_call 122; (with_reducible refine (a_heap q HI.out.1 HI.out.2 _).mono ?_); rintro e w2 ⟨rfl, hb2⟩; have HB2 := Lib.hid (HB.out.trans (hb2.mono (by rw [size_new]; omega))); have HM2 := Lib.hid (HM.out.below hb2 HM.out.lt); clear hb2; obtain ⟨d0, d1, d2, d3, d4, d5, d6, d7, d8, d9, d10, d11, d12⟩ := box_cells HM2.out)
      | (go_at_call 123; (with_reducible refine (a_logs q _).mono ?_); rintro e w3 ⟨rfl, hb3⟩; have HB3 := Lib.hid (HB2.out.trans (hb3.mono HB2.out.size)); have HM3 := Lib.hid (HM2.out.below hb3 HM2.out.lt); clear hb3 d0 d1 d2 d3 d4 d5 d6 d7 d8 d9 d10 d11 d12; obtain ⟨d0, d1, d2, d3, d4, d5, d6, d7, d8, d9, d10, d11, d12⟩ := box_cells HM3.out))
    go_ret
    exact ⟨rfl, HB3.out⟩
end Go.Proofs.Ytpjbmbipkmpkhaa.LayB
