/-
  Contracts of the functions of package word and of the reference of layer 1: each returns the number or the pair that the document gives, and changes nothing.
-/
import Derived.Test.YtdegclfbnldgaaaRows
import Derived.WalkKit
import Derived.ProofKit
import Derived.OpenShut
namespace Go.Proofs.Ytdegclfbnldgaaa.WordC
open Go.ChangeShapes Go.WideShapes Go.ChangeAt Go.RowKit
set_option linter.unusedVariables false

theorem w_ver_yes (v : Int) (h0 : 0 ≤ v) (h1 : v ≤ 1099511627776) (w : World) :
    Calls Try.prog 103 #[.int .i64 v] w fun e w' => e = .returned (.bool true) ∧ w = w' := by
  go_enter Try.func103, Try.ntmps103
  go_wp2
  go_ret
  exact ⟨rfl, rfl⟩
theorem w_ver_no (v : Int) (h : v < 0 ∨ 1099511627776 < v) (w : World) :
    Calls Try.prog 103 #[.int .i64 v] w fun e w' => e = .returned (.bool false) ∧ w = w' := by
  rcases h with h | h
  · have hd : decide (0 ≤ v) = false := by simpa using h
    go_enter Try.func103, Try.ntmps103
    go_wp2
    go_ret
    exact ⟨rfl, rfl⟩
  · have hd : decide (v ≤ 1099511627776) = false := by simpa using h
    by_cases h0 : 0 ≤ v
    · go_enter Try.func103, Try.ntmps103
      go_wp2
      go_ret
      exact ⟨rfl, rfl⟩
    · go_enter Try.func103, Try.ntmps103
      go_wp2
      go_ret
      exact ⟨rfl, rfl⟩
theorem r_ver_yes (v : Int) (h0 : 0 ≤ v) (h1 : v ≤ 1099511627776) (w : World) :
    Calls Try.prog 70 #[.int .i64 v] w fun e w' => e = .returned (.bool true) ∧ w = w' := by
  go_enter Try.func70, Try.ntmps70
  go_wp2
  go_ret
  exact ⟨rfl, rfl⟩
theorem r_ver_no (v : Int) (h : v < 0 ∨ 1099511627776 < v) (w : World) :
    Calls Try.prog 70 #[.int .i64 v] w fun e w' => e = .returned (.bool false) ∧ w = w' := by
  rcases h with h | h
  · have hd : decide (0 ≤ v) = false := by simpa using h
    go_enter Try.func70, Try.ntmps70
    go_wp2
    go_ret
    exact ⟨rfl, rfl⟩
  · have hd : decide (v ≤ 1099511627776) = false := by simpa using h
    by_cases h0 : 0 ≤ v
    · go_enter Try.func70, Try.ntmps70
      go_wp2
      go_ret
      exact ⟨rfl, rfl⟩
    · go_enter Try.func70, Try.ntmps70
      go_wp2
      go_ret
      exact ⟨rfl, rfl⟩
theorem w_active (v : Int) (h0 : 0 ≤ v) (h1 : v ≤ 1099511627776) (w : World) :
    Calls Try.prog 86 #[.int .i64 v] w fun e w' => e = .returned (.tuple #[.int .u64 (v + 2), .int .i64 0]) ∧ w = w' := by
  go_enter Try.func86, Try.ntmps86
  go_wp2_with (go_at_call 103; refine (w_ver_yes _ (by omega) (by omega) _).mono ?_; rintro e w1 ⟨rfl, rfl⟩)
  go_ret2
  exact ⟨rfl, rfl⟩
theorem w_active_no (v : Int) (h : v < 0 ∨ 1099511627776 < v) (w : World) :
    Calls Try.prog 86 #[.int .i64 v] w fun e w' => e = .returned (.tuple #[.int .u64 0, .int .i64 2]) ∧ w = w' := by
  go_enter Try.func86, Try.ntmps86
  go_wp2_with (go_at_call 103; refine (w_ver_no _ (by omega) _).mono ?_; rintro e w1 ⟨rfl, rfl⟩)
  go_ret2
  exact ⟨rfl, rfl⟩
theorem w_version (o : Int) (h0 : 0 ≤ o) (h1 : o ≤ 18446744073709551615) (w : World) :
    Calls Try.prog 69 #[.int .u64 o] w fun e w' => e = .returned (.int .i64 (o / 64)) ∧ w = w' := by
  go_enter Try.func69, Try.ntmps69
  go_wp2
  go_ret
  exact ⟨rfl, rfl⟩
theorem w_state0  (w : World) :
    Calls Try.prog 87 #[.int .u64 0] w fun e w' => e = .returned (.int .i64 0) ∧ w = w' := by
  go_enter Try.func87, Try.ntmps87
  go_wp2
  go_ret
  exact ⟨rfl, rfl⟩
theorem w_state1  (w : World) :
    Calls Try.prog 87 #[.int .u64 1] w fun e w' => e = .returned (.int .i64 1) ∧ w = w' := by
  go_enter Try.func87, Try.ntmps87
  go_wp2
  go_ret
  exact ⟨rfl, rfl⟩
theorem w_state2 (o : Int) (h : 2 ≤ o) (h1 : o ≤ 18446744073709551615) (w : World) :
    Calls Try.prog 87 #[.int .u64 o] w fun e w' => e = .returned (.int .i64 2) ∧ w = w' := by
  have e0 : (o == 0) = false := by simp; omega
  have e1 : (o == 1) = false := by simp; omega
  go_enter Try.func87, Try.ntmps87
  go_wp2
  go_ret
  exact ⟨rfl, rfl⟩
theorem w_snap (o : Int) (h0 : 2 ≤ o) (h1 : o ≤ 1099511627778) (w : World) :
    Calls Try.prog 88 #[.int .u64 o] w fun e w' => e = .returned (.int .i64 (o - 2)) ∧ w = w' := by
  go_enter Try.func88, Try.ntmps88
  go_wp2
  go_ret
  exact ⟨rfl, rfl⟩
theorem w_snap_no (o : Int) (h0 : 0 ≤ o) (h1 : o ≤ 18446744073709551615) (h : o < 2 ∨ 1099511627778 < o) (w : World) :
    Calls Try.prog 88 #[.int .u64 o] w fun e w' => e = .returned (.int .i64 (-1)) ∧ w = w' := by
  rcases h with h | h
  · go_enter Try.func88, Try.ntmps88
    go_wp2
    go_ret
    exact ⟨rfl, rfl⟩
  · go_enter Try.func88, Try.ntmps88
    go_wp2
    go_ret
    exact ⟨rfl, rfl⟩
theorem r_free (v : Int) (h0 : 0 ≤ v) (h1 : v ≤ 1099511627776) (w : World) :
    Calls Try.prog 42 #[.int .i64 v] w fun e w' => e = .returned (.tuple #[.int .u64 (v * 64), .int .i64 0]) ∧ w = w' := by
  go_enter Try.func42, Try.ntmps42
  go_wp2_with (go_at_call 70; refine (r_ver_yes _ (by omega) (by omega) _).mono ?_; rintro e w1 ⟨rfl, rfl⟩)
  go_ret2
  refine ⟨?_, rfl⟩
  first | rfl | (rw [Int.mul_comm]; rfl)
theorem r_free_no (v : Int) (h : v < 0 ∨ 1099511627776 < v) (w : World) :
    Calls Try.prog 42 #[.int .i64 v] w fun e w' => e = .returned (.tuple #[.int .u64 0, .int .i64 2]) ∧ w = w' := by
  go_enter Try.func42, Try.ntmps42
  go_wp2_with (go_at_call 70; refine (r_ver_no _ (by omega) _).mono ?_; rintro e w1 ⟨rfl, rfl⟩)
  go_ret2
  exact ⟨rfl, rfl⟩
theorem r_held (v t : Int) (h0 : 0 ≤ v) (h1 : v ≤ 1099511627776) (h2 : 0 ≤ t) (h3 : t < 16) (w : World) :
    Calls Try.prog 67 #[.int .i64 v, .int .i64 t] w fun e w' => e = .returned (.tuple #[.int .u64 (v * 64 + t + 1), .int .i64 0]) ∧ w = w' := by
  go_enter Try.func67, Try.ntmps67
  go_wp2_with (go_at_call 70; refine (r_ver_yes _ (by omega) (by omega) _).mono ?_; rintro e w1 ⟨rfl, rfl⟩)
  go_ret2
  refine ⟨?_, rfl⟩
  first | rfl | (rw [Int.mul_comm]; rfl)
theorem r_held_no (v t : Int) (h : v < 0 ∨ 1099511627776 < v ∨ t < 0 ∨ 16 ≤ t) (w : World) :
    Calls Try.prog 67 #[.int .i64 v, .int .i64 t] w fun e w' => e = .returned (.tuple #[.int .u64 0, .int .i64 2]) ∧ w = w' := by
  by_cases hv : 0 ≤ v ∧ v ≤ 1099511627776
  · obtain ⟨h0, h1⟩ := hv
    have ht : t < 0 ∨ 16 ≤ t := by omega
    clear h
    rcases ht with ht | ht
    · go_enter Try.func67, Try.ntmps67
      go_wp2_with (go_at_call 70; refine (r_ver_yes _ (by omega) (by omega) _).mono ?_; rintro e w1 ⟨rfl, rfl⟩)
      go_ret2
      exact ⟨rfl, rfl⟩
    · go_enter Try.func67, Try.ntmps67
      go_wp2_with (go_at_call 70; refine (r_ver_yes _ (by omega) (by omega) _).mono ?_; rintro e w1 ⟨rfl, rfl⟩)
      go_ret2
      exact ⟨rfl, rfl⟩
  · have hv' : v < 0 ∨ 1099511627776 < v := by omega
    clear h hv
    go_enter Try.func67, Try.ntmps67
    go_wp2_with (go_at_call 70; refine (r_ver_no _ (by omega) _).mono ?_; rintro e w1 ⟨rfl, rfl⟩)
    go_ret2
    exact ⟨rfl, rfl⟩
theorem r_version (o : Int) (h0 : 0 ≤ o) (h1 : o ≤ 18446744073709551615) (w : World) :
    Calls Try.prog 41 #[.int .u64 o] w fun e w' => e = .returned (.int .i64 (o / 64)) ∧ w = w' := by
  go_enter Try.func41, Try.ntmps41
  go_wp2
  go_ret
  exact ⟨rfl, rfl⟩
end Go.Proofs.Ytdegclfbnldgaaa.WordC
