/-
  Contracts of the statements' own functions: Place, example, awake, agrees.
-/
import Derived.Test.YtnakmajnljpblaaLayI
import Derived.Test.YtnakmajnljpblaaLayJ
namespace Go.Proofs.Ytnakmajnljpblaa.LayK
open Go.ChangeShapes Go.WideShapes Go.ChangeAt Go.RowKit
open PlainT BlkW LayS LayA LayB LayC LayD LayE LayF LayG LayH LayI LayJ
set_option linter.unusedVariables false
set_option maxHeartbeats 1000000

/-- What Place gives. -/
def pl (a m : Int) : Int := wrap64 ((IntKind.u64.wrap a).tmod m)
theorem pl_in (a m : Int) (h0 : 0 < m) (h1 : m ≤ 1000) : 0 ≤ pl a m ∧ pl a m ≤ m - 1 := by
  have hu : 0 ≤ IntKind.u64.wrap a := (bounds_u64 (wf_wrap .u64 a)).1
  unfold pl
  rw [Int.tmod_eq_emod_of_nonneg hu]
  have a0 := Int.emod_nonneg (IntKind.u64.wrap a) (by omega : m ≠ 0)
  have a1 := Int.emod_lt_of_pos (IntKind.u64.wrap a) h0
  rw [IntWalk.wrap64_in _ (by omega)]
  omega
theorem k_place (a m v : Int) (h0 : 0 < m) (h1 : m ≤ 1000) (hv : pl a m = v) (w : World) : Calls Try.prog 13 #[.int .i64 a, .int .i64 m] w fun e w' => e = .returned (.int .i64 v) ∧ w = w' := by
  have hw : IntKind.u64.wrap m = m := Int.emod_eq_of_lt (by omega) (by show m < 18446744073709551616; omega)
  have hv2 : wrap64 ((IntKind.u64.wrap a).tmod m) = v := hv
  clear hv
  go_enter Try.func13, Try.ntmps13
  go_wp2
  go_ret
  exact ⟨by rw [← hv2]; rfl, rfl⟩
/-- Place, whatever it gives. -/
theorem k_place_ex (a m : Int) (h0 : 0 < m) (h1 : m ≤ 1000) (w : World) : Calls Try.prog 13 #[.int .i64 a, .int .i64 m] w fun e w' => ∃ v, 0 ≤ v ∧ v ≤ m - 1 ∧ e = .returned (.int .i64 v) ∧ w = w' :=
  (k_place a m _ h0 h1 rfl w).mono fun e w' ⟨h, hw⟩ => ⟨_, (pl_in a m h0 h1).1, (pl_in a m h0 h1).2, h, hw⟩
/-- The configuration of the chapter; the zero value. -/
def ex : Cfg := ⟨16, 3, 4, 2, 1, 0, 0, 1, 1, 0, 0, 0, false⟩
def zeroC : Cfg := ⟨0, 0, 0, 0, 0, 0, 0, 0, 0, 0, 0, 0, false⟩
theorem l_example (w : World) : Calls Try.prog 90 #[] w fun e w' => e = .returned (cfgV ex) ∧ Below w.heap.size w w' := by
  go_enter Try.func90, Try.ntmps90
  go_wp2
  refine bodyPost_ret (v := cfgV ex) (by simp [results, Try.results90, go_sem, ex]) rfl ⟨rfl, ?_⟩
  exact below_new _ _
set_option maxRecDepth 100000 in
set_option maxHeartbeats 4000000 in
theorem l_awake (w : World) : Calls Try.prog 34 #[] w fun e w' => e = .returned (.bool true) ∧ Below w.heap.size w w' := by
  have e1 := a_check ex
  have e2 := a_blocks ex
  have e3 := a_first ex 2
  have e4 := a_class ex 2
  have e5 := a_find ex 5 (by omega) (by omega)
  have e6 := a_orec ex 18
  have e7 : ∀ w, Calls Try.prog 80 #[.agg #[.int .i64 0, .int .i64 0, .int .i64 0, .int .i64 0, .int .i64 0, .int .i64 0, .int .i64 0, .int .i64 0, .int .i64 0, .int .i64 0, .int .i64 0, .int .i64 0, .bool false]] w fun e w' => e = .returned (.int .i64 50) ∧ Below w.heap.size w w' := fun w => by
    have h := a_check zeroC w
    rw [show chkV zeroC = 50 by decide +kernel] at h
    exact h
  rw [show chkV ex = 0 by decide +kernel] at e1
  rw [show blkV ex = 3 by decide +kernel] at e2
  rw [show fstV ex 2 = 6 by decide +kernel] at e3
  rw [show clsV ex 2 = 1 by decide +kernel] at e4
  rw [show findV ex 5 = 1 by decide +kernel] at e5
  rw [show orcV ex 18 = 0 by decide +kernel] at e6
  go_enter Try.func34, Try.ntmps34
  go_wp2_with fail
  refine (l_example _).mono ?_
  rintro e w1 ⟨rfl, hb1⟩
  have hq := hq_new w1 ex
  have HB1 := Lib.hid hb1
  clear hb1
  obtain ⟨d0, d1, d2, d3, d4, d5, d6, d7, d8, d9, d10, d11, d12, _⟩ := heldq_of hq
  go_wp2_with (first
    | (go_at_call 80; (with_reducible refine (e1 _).mono ?_); rintro e w2 ⟨rfl, hb⟩; have hk := heldq_keep (heldq_of (by assumption)) hb; clear hb d0 d1 d2 d3 d4 d5 d6 d7 d8 d9 d10 d11 d12; obtain ⟨d0, d1, d2, d3, d4, d5, d6, d7, d8, d9, d10, d11, d12, hq⟩ := hk)
    | (go_at_call 82; (with_reducible refine (e2 _).mono ?_); rintro e w2 ⟨rfl, hb⟩; have hk := heldq_keep (heldq_of (by assumption)) hb; clear hb d0 d1 d2 d3 d4 d5 d6 d7 d8 d9 d10 d11 d12; obtain ⟨d0, d1, d2, d3, d4, d5, d6, d7, d8, d9, d10, d11, d12, hq⟩ := hk)
    | (go_at_call 84; (with_reducible refine (e3 _).mono ?_); rintro e w2 ⟨rfl, hb⟩; have hk := heldq_keep (heldq_of (by assumption)) hb; clear hb d0 d1 d2 d3 d4 d5 d6 d7 d8 d9 d10 d11 d12; obtain ⟨d0, d1, d2, d3, d4, d5, d6, d7, d8, d9, d10, d11, d12, hq⟩ := hk)
    | (go_at_call 83; (with_reducible refine (e4 _).mono ?_); rintro e w2 ⟨rfl, hb⟩; have hk := heldq_keep (heldq_of (by assumption)) hb; clear hb d0 d1 d2 d3 d4 d5 d6 d7 d8 d9 d10 d11 d12; obtain ⟨d0, d1, d2, d3, d4, d5, d6, d7, d8, d9, d10, d11, d12, hq⟩ := hk)
    | (go_at_call 86; (with_reducible refine (e5 _).mono ?_); rintro e w2 ⟨rfl, hb⟩; have hk := heldq_keep (heldq_of (by assumption)) hb; clear hb d0 d1 d2 d3 d4 d5 d6 d7 d8 d9 d10 d11 d12; obtain ⟨d0, d1, d2, d3, d4, d5, d6, d7, d8, d9, d10, d11, d12, hq⟩ := hk)
    | (go_at_call 88; (with_reducible refine (e6 _).mono ?_); rintro e w2 ⟨rfl, hb⟩; have hk := heldq_keep (heldq_of (by assumption)) hb; clear hb d0 d1 d2 d3 d4 d5 d6 d7 d8 d9 d10 d11 d12; obtain ⟨d0, d1, d2, d3, d4, d5, d6, d7, d8, d9, d10, d11, d12, hq⟩ := hk)
    | (go_at_call 80; (with_reducible refine (e7 _).mono ?_); rintro e w2 ⟨rfl, hb⟩; have hk := heldq_keep (heldq_of (by assumption)) hb; clear hb d0 d1 d2 d3 d4 d5 d6 d7 d8 d9 d10 d11 d12; obtain ⟨d0, d1, d2, d3, d4, d5, d6, d7, d8, d9, d10, d11, d12, hq⟩ := hk))
  go_ret
  exact ⟨rfl, below_trans2 HB1.out hq.2⟩
end Go.Proofs.Ytnakmajnljpblaa.LayK
