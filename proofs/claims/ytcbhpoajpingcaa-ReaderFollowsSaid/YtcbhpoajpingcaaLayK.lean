/-
  Contracts of the statements' own functions: Place, example, awake, agrees.
-/
import Derived.Test.YtcbhpoajpingcaaLayI
import Derived.Test.YtcbhpoajpingcaaLayJ
namespace Go.Proofs.Ytcbhpoajpingcaa.LayK
open Go.ChangeShapes Go.WideShapes Go.ChangeAt Go.RowKit
open PlainT BlkW LayS LayA LayB LayC LayD LayE LayF LayG LayH LayI LayJ
set_option linter.unusedVariables false
set_option maxHeartbeats 1000000

/-- What Place gives. -/
def pl (a m : Int) : Int := wrap64 ((IntKind.u64.wrap a).tmod m)
theorem pl_in (a m : Int) (h0 : 0 < m) (h1 : m ≤ 1000) : 0 ≤ pl a m ∧ pl a m ≤ m - 1 := by
  have hu : 0 ≤ IntKind.u64.wrap a := (bounds_u64 (wf_wrap .u64 a)).1
  unfold pl
  rw [Int.tmod_eq_emod_of_nonneg hu]
  have a0 := Int.emod_nonneg (IntKind.u64.wrap a) (by omega : m ≠ 0)
  have a1 := Int.emod_lt_of_pos (IntKind.u64.wrap a) h0
  rw [IntWalk.wrap64_in _ (by omega)]
  omega
theorem k_place (a m v : Int) (h0 : 0 < m) (h1 : m ≤ 1000) (hv : pl a m = v) (w : World) : Calls Try.prog 14 #[.int .i64 a, .int .i64 m] w fun e w' => e = .returned (.int .i64 v) ∧ w = w' := by
  have hw : IntKind.u64.wrap m = m := Int.emod_eq_of_lt (by omega) (by show m < 18446744073709551616; omega)
  have hv2 : wrap64 ((IntKind.u64.wrap a).tmod m) = v := hv
  clear hv
  go_enter Try.func14, Try.ntmps14
  go_wp2
  go_ret
  exact ⟨by rw [← hv2]; rfl, rfl⟩
/-- Place, whatever it gives. -/
theorem k_place_ex (a m : Int) (h0 : 0 < m) (h1 : m ≤ 1000) (w : World) : Calls Try.prog 14 #[.int .i64 a, .int .i64 m] w fun e w' => ∃ v, 0 ≤ v ∧ v ≤ m - 1 ∧ e = .returned (.int .i64 v) ∧ w = w' :=
  (k_place a m _ h0 h1 rfl w).mono fun e w' ⟨h, hw⟩ => ⟨_, (pl_in a m h0 h1).1, (pl_in a m h0 h1).2, h, hw⟩
/-- The configuration of the chapter; the zero value. -/
def ex : Cfg := ⟨16, 3, 4, 2, 1, 0, 0, 1, 1, 0, 0, 0, false⟩
def zeroC : Cfg := ⟨0, 0, 0, 0, 0, 0, 0, 0, 0, 0, 0, 0, false⟩
end Go.Proofs.Ytcbhpoajpingcaa.LayK
