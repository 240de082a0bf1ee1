/-
  Contracts of the functions of package word and of the reference of layer 1: each returns the number or the pair that the document gives, and changes nothing.
-/
import Derived.Test.YtpdmmblcjidekaaRows
import Derived.WalkKit
import Derived.ProofKit
import Derived.OpenShut
namespace Go.Proofs.Ytpdmmblcjidekaa.WordC
open Go.ChangeShapes Go.WideShapes Go.ChangeAt Go.RowKit
set_option linter.unusedVariables false

theorem w_ver_yes (v : Int) (h0 : 0 ≤ v) (h1 : v ≤ 1099511627776) (w : World) :
    Calls Try.prog 110 #[.int .i64 v] w fun e w' => e = .returned (.bool true) ∧ w = w' := by
  go_enter Try.func110, Try.ntmps110
  go_wp2
  go_ret
  exact ⟨rfl, rfl⟩
theorem w_ver_no (v : Int) (h : v < 0 ∨ 1099511627776 < v) (w : World) :
    Calls Try.prog 110 #[.int .i64 v] w fun e w' => e = .returned (.bool false) ∧ w = w' := by
  rcases h with h | h
  · have hd : decide (0 ≤ v) = false := by simpa using h
    go_enter Try.func110, Try.ntmps110
    go_wp2
    go_ret
    exact ⟨rfl, rfl⟩
  · have hd : decide (v ≤ 1099511627776) = false := by simpa using h
    by_cases h0 : 0 ≤ v
    · go_enter Try.func110, Try.ntmps110
      go_wp2
      go_ret
      exact ⟨rfl, rfl⟩
    · go_enter Try.func110, Try.ntmps110
      go_wp2
      go_ret
      exact ⟨rfl, rfl⟩
theorem r_ver_yes (v : Int) (h0 : 0 ≤ v) (h1 : v ≤ 1099511627776) (w : World) :
    Calls Try.prog 111 #[.int .i64 v] w fun e w' => e = .returned (.bool true) ∧ w = w' := by
  go_enter Try.func111, Try.ntmps111
  go_wp2
  go_ret
  exact ⟨rfl, rfl⟩
theorem r_ver_no (v : Int) (h : v < 0 ∨ 1099511627776 < v) (w : World) :
    Calls Try.prog 111 #[.int .i64 v] w fun e w' => e = .returned (.bool false) ∧ w = w' := by
  rcases h with h | h
  · have hd : decide (0 ≤ v) = false := by simpa using h
    go_enter Try.func111, Try.ntmps111
    go_wp2
    go_ret
    exact ⟨rfl, rfl⟩
  · have hd : decide (v ≤ 1099511627776) = false := by simpa using h
    by_cases h0 : 0 ≤ v
    · go_enter Try.func111, Try.ntmps111
      go_wp2
      go_ret
      exact ⟨rfl, rfl⟩
    · go_enter Try.func111, Try.ntmps111
      go_wp2
      go_ret
      exact ⟨rfl, rfl⟩
theorem w_active (v : Int) (h0 : 0 ≤ v) (h1 : v ≤ 1099511627776) (w : World) :
    Calls Try.prog 91 #[.int .i64 v] w fun e w' => e = .returned (.tuple #[.int .u64 (v + 2), .int .i64 0]) ∧ w = w' := by
  go_enter Try.func91, Try.ntmps91
  go_wp2_with (go_at_call 110; refine (w_ver_yes _ (by omega) (by omega) _).mono ?_; rintro e w1 ⟨rfl, rfl⟩)
  go_ret2
  exact ⟨rfl, rfl⟩
theorem w_active_no (v : Int) (h : v < 0 ∨ 1099511627776 < v) (w : World) :
    Calls Try.prog 91 #[.int .i64 v] w fun e w' => e = .returned (.tuple #[.int .u64 0, .int .i64 2]) ∧ w = w' := by
  go_enter Try.func91, Try.ntmps91
  go_wp2_with (go_at_call 110; refine (w_ver_no _ (by omega) _).mono ?_; rintro e w1 ⟨rfl, rfl⟩)
  go_ret2
  exact ⟨rfl, rfl⟩
theorem w_state0  (w : World) :
    Calls Try.prog 112 #[.int .u64 0] w fun e w' => e = .returned (.int .i64 0) ∧ w = w' := by
  go_enter Try.func112, Try.ntmps112
  go_wp2
  go_ret
  exact ⟨rfl, rfl⟩
theorem w_state1  (w : World) :
    Calls Try.prog 112 #[.int .u64 1] w fun e w' => e = .returned (.int .i64 1) ∧ w = w' := by
  go_enter Try.func112, Try.ntmps112
  go_wp2
  go_ret
  exact ⟨rfl, rfl⟩
theorem w_state2 (o : Int) (h : 2 ≤ o) (h1 : o ≤ 18446744073709551615) (w : World) :
    Calls Try.prog 112 #[.int .u64 o] w fun e w' => e = .returned (.int .i64 2) ∧ w = w' := by
  have e0 : (o == 0) = false := by simp; omega
  have e1 : (o == 1) = false := by simp; omega
  go_enter Try.func112, Try.ntmps112
  go_wp2
  go_ret
  exact ⟨rfl, rfl⟩
theorem w_snap (o : Int) (h0 : 2 ≤ o) (h1 : o ≤ 1099511627778) (w : World) :
    Calls Try.prog 113 #[.int .u64 o] w fun e w' => e = .returned (.int .i64 (o - 2)) ∧ w = w' := by
  go_enter Try.func113, Try.ntmps113
  go_wp2
  go_ret
  exact ⟨rfl, rfl⟩
theorem w_snap_no (o : Int) (h0 : 0 ≤ o) (h1 : o ≤ 18446744073709551615) (h : o < 2 ∨ 1099511627778 < o) (w : World) :
    Calls Try.prog 113 #[.int .u64 o] w fun e w' => e = .returned (.int .i64 (-1)) ∧ w = w' := by
  rcases h with h | h
  · go_enter Try.func113, Try.ntmps113
    go_wp2
    go_ret
    exact ⟨rfl, rfl⟩
  · go_enter Try.func113, Try.ntmps113
    go_wp2
    go_ret
    exact ⟨rfl, rfl⟩
theorem r_active (v : Int) (h0 : 0 ≤ v) (h1 : v ≤ 1099511627776) (w : World) :
    Calls Try.prog 92 #[.int .i64 v] w fun e w' => e = .returned (.tuple #[.int .u64 (v + 2), .int .i64 0]) ∧ w = w' := by
  go_enter Try.func92, Try.ntmps92
  go_wp2_with (go_at_call 111; refine (r_ver_yes _ (by omega) (by omega) _).mono ?_; rintro e w1 ⟨rfl, rfl⟩)
  go_ret2
  exact ⟨rfl, rfl⟩
theorem r_active_no (v : Int) (h : v < 0 ∨ 1099511627776 < v) (w : World) :
    Calls Try.prog 92 #[.int .i64 v] w fun e w' => e = .returned (.tuple #[.int .u64 0, .int .i64 2]) ∧ w = w' := by
  go_enter Try.func92, Try.ntmps92
  go_wp2_with (go_at_call 111; refine (r_ver_no _ (by omega) _).mono ?_; rintro e w1 ⟨rfl, rfl⟩)
  go_ret2
  exact ⟨rfl, rfl⟩
theorem r_state0  (w : World) :
    Calls Try.prog 49 #[.int .u64 0] w fun e w' => e = .returned (.int .i64 0) ∧ w = w' := by
  go_enter Try.func49, Try.ntmps49
  go_wp2
  go_ret
  exact ⟨rfl, rfl⟩
theorem r_state1  (w : World) :
    Calls Try.prog 49 #[.int .u64 1] w fun e w' => e = .returned (.int .i64 1) ∧ w = w' := by
  go_enter Try.func49, Try.ntmps49
  go_wp2
  go_ret
  exact ⟨rfl, rfl⟩
theorem r_state2 (o : Int) (h : 2 ≤ o) (h1 : o ≤ 18446744073709551615) (w : World) :
    Calls Try.prog 49 #[.int .u64 o] w fun e w' => e = .returned (.int .i64 2) ∧ w = w' := by
  go_enter Try.func49, Try.ntmps49
  go_wp2
  go_ret
  exact ⟨rfl, rfl⟩
theorem r_snap (o : Int) (h0 : 2 ≤ o) (h1 : o ≤ 1099511627778) (w : World) :
    Calls Try.prog 50 #[.int .u64 o] w fun e w' => e = .returned (.int .i64 (o - 2)) ∧ w = w' := by
  go_enter Try.func50, Try.ntmps50
  go_wp2
  go_ret
  exact ⟨rfl, rfl⟩
theorem r_snap_no (o : Int) (h0 : 0 ≤ o) (h1 : o ≤ 18446744073709551615) (h : o < 2 ∨ 1099511627778 < o) (w : World) :
    Calls Try.prog 50 #[.int .u64 o] w fun e w' => e = .returned (.int .i64 (-1)) ∧ w = w' := by
  rcases h with h | h
  · go_enter Try.func50, Try.ntmps50
    go_wp2
    go_ret
    exact ⟨rfl, rfl⟩
  · go_enter Try.func50, Try.ntmps50
    go_wp2
    go_ret
    exact ⟨rfl, rfl⟩
end Go.Proofs.Ytpdmmblcjidekaa.WordC
