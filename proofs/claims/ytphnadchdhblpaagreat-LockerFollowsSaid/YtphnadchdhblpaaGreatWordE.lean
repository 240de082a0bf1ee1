/-
  Contracts of the functions of package word and of the reference of layer 1: each returns the number or the pair that the document gives, and changes nothing.
-/
import Derived.Test.YtphnadchdhblpaaGreatRows
import Derived.WalkKit
import Derived.ProofKit
import Derived.OpenShut
namespace Go.Proofs.YtphnadchdhblpaaGreat.WordC
open Go.ChangeShapes Go.WideShapes Go.ChangeAt Go.RowKit
set_option linter.unusedVariables false

theorem w_ver_yes (v : Int) (h0 : 0 ≤ v) (h1 : v ≤ 1099511627776) (w : World) :
    Calls Tryz.prog 77 #[.int .i64 v] w fun e w' => e = .returned (.bool true) ∧ w = w' := by
  go_enter Tryz.func77, Tryz.ntmps77
  go_wp2
  go_ret
  exact ⟨rfl, rfl⟩
theorem w_ver_no (v : Int) (h : v < 0 ∨ 1099511627776 < v) (w : World) :
    Calls Tryz.prog 77 #[.int .i64 v] w fun e w' => e = .returned (.bool false) ∧ w = w' := by
  rcases h with h | h
  · have hd : decide (0 ≤ v) = false := by simpa using h
    go_enter Tryz.func77, Tryz.ntmps77
    go_wp2
    go_ret
    exact ⟨rfl, rfl⟩
  · have hd : decide (v ≤ 1099511627776) = false := by simpa using h
    by_cases h0 : 0 ≤ v
    · go_enter Tryz.func77, Tryz.ntmps77
      go_wp2
      go_ret
      exact ⟨rfl, rfl⟩
    · go_enter Tryz.func77, Tryz.ntmps77
      go_wp2
      go_ret
      exact ⟨rfl, rfl⟩
theorem r_ver_yes (v : Int) (h0 : 0 ≤ v) (h1 : v ≤ 1099511627776) (w : World) :
    Calls Tryz.prog 32 #[.int .i64 v] w fun e w' => e = .returned (.bool true) ∧ w = w' := by
  go_enter Tryz.func32, Tryz.ntmps32
  go_wp2
  go_ret
  exact ⟨rfl, rfl⟩
theorem r_ver_no (v : Int) (h : v < 0 ∨ 1099511627776 < v) (w : World) :
    Calls Tryz.prog 32 #[.int .i64 v] w fun e w' => e = .returned (.bool false) ∧ w = w' := by
  rcases h with h | h
  · have hd : decide (0 ≤ v) = false := by simpa using h
    go_enter Tryz.func32, Tryz.ntmps32
    go_wp2
    go_ret
    exact ⟨rfl, rfl⟩
  · have hd : decide (v ≤ 1099511627776) = false := by simpa using h
    by_cases h0 : 0 ≤ v
    · go_enter Tryz.func32, Tryz.ntmps32
      go_wp2
      go_ret
      exact ⟨rfl, rfl⟩
    · go_enter Tryz.func32, Tryz.ntmps32
      go_wp2
      go_ret
      exact ⟨rfl, rfl⟩
theorem w_held (v t : Int) (h0 : 0 ≤ v) (h1 : v ≤ 1099511627776) (h2 : 0 ≤ t) (h3 : t < 16) (w : World) :
    Calls Tryz.prog 62 #[.int .i64 v, .int .i64 t] w fun e w' => e = .returned (.tuple #[.int .u64 (v * 64 + t + 1), .int .i64 0]) ∧ w = w' := by
  go_enter Tryz.func62, Tryz.ntmps62
  go_wp2_with (go_at_call 77; refine (w_ver_yes _ (by omega) (by omega) _).mono ?_; rintro e w1 ⟨rfl, rfl⟩)
  go_ret2
  refine ⟨?_, rfl⟩
  first | rfl | (rw [Int.mul_comm]; rfl)
theorem w_held_no (v t : Int) (h : v < 0 ∨ 1099511627776 < v ∨ t < 0 ∨ 16 ≤ t) (w : World) :
    Calls Tryz.prog 62 #[.int .i64 v, .int .i64 t] w fun e w' => e = .returned (.tuple #[.int .u64 0, .int .i64 2]) ∧ w = w' := by
  by_cases hv : 0 ≤ v ∧ v ≤ 1099511627776
  · obtain ⟨h0, h1⟩ := hv
    have ht : t < 0 ∨ 16 ≤ t := by omega
    clear h
    rcases ht with ht | ht
    · go_enter Tryz.func62, Tryz.ntmps62
      go_wp2_with (go_at_call 77; refine (w_ver_yes _ (by omega) (by omega) _).mono ?_; rintro e w1 ⟨rfl, rfl⟩)
      go_ret2
      exact ⟨rfl, rfl⟩
    · go_enter Tryz.func62, Tryz.ntmps62
      go_wp2_with (go_at_call 77; refine (w_ver_yes _ (by omega) (by omega) _).mono ?_; rintro e w1 ⟨rfl, rfl⟩)
      go_ret2
      exact ⟨rfl, rfl⟩
  · have hv' : v < 0 ∨ 1099511627776 < v := by omega
    clear h hv
    go_enter Tryz.func62, Tryz.ntmps62
    go_wp2_with (go_at_call 77; refine (w_ver_no _ (by omega) _).mono ?_; rintro e w1 ⟨rfl, rfl⟩)
    go_ret2
    exact ⟨rfl, rfl⟩
theorem w_version (o : Int) (h0 : 0 ≤ o) (h1 : o ≤ 18446744073709551615) (w : World) :
    Calls Tryz.prog 63 #[.int .u64 o] w fun e w' => e = .returned (.int .i64 (o / 64)) ∧ w = w' := by
  go_enter Tryz.func63, Tryz.ntmps63
  go_wp2
  go_ret
  exact ⟨rfl, rfl⟩
theorem w_holder (o : Int) (h0 : 0 ≤ o) (h1 : o ≤ 18446744073709551615) (w : World) :
    Calls Tryz.prog 39 #[.int .u64 o] w fun e w' => e = .returned (.int .i64 (o % 64 - 1)) ∧ w = w' := by
  go_enter Tryz.func39, Tryz.ntmps39
  go_wp2
  go_ret
  exact ⟨rfl, rfl⟩
theorem r_free (v : Int) (h0 : 0 ≤ v) (h1 : v ≤ 1099511627776) (w : World) :
    Calls Tryz.prog 7 #[.int .i64 v] w fun e w' => e = .returned (.tuple #[.int .u64 (v * 64), .int .i64 0]) ∧ w = w' := by
  go_enter Tryz.func7, Tryz.ntmps7
  go_wp2_with (go_at_call 32; refine (r_ver_yes _ (by omega) (by omega) _).mono ?_; rintro e w1 ⟨rfl, rfl⟩)
  go_ret2
  refine ⟨?_, rfl⟩
  first | rfl | (rw [Int.mul_comm]; rfl)
theorem r_free_no (v : Int) (h : v < 0 ∨ 1099511627776 < v) (w : World) :
    Calls Tryz.prog 7 #[.int .i64 v] w fun e w' => e = .returned (.tuple #[.int .u64 0, .int .i64 2]) ∧ w = w' := by
  go_enter Tryz.func7, Tryz.ntmps7
  go_wp2_with (go_at_call 32; refine (r_ver_no _ (by omega) _).mono ?_; rintro e w1 ⟨rfl, rfl⟩)
  go_ret2
  exact ⟨rfl, rfl⟩
theorem r_held (v t : Int) (h0 : 0 ≤ v) (h1 : v ≤ 1099511627776) (h2 : 0 ≤ t) (h3 : t < 16) (w : World) :
    Calls Tryz.prog 43 #[.int .i64 v, .int .i64 t] w fun e w' => e = .returned (.tuple #[.int .u64 (v * 64 + t + 1), .int .i64 0]) ∧ w = w' := by
  go_enter Tryz.func43, Tryz.ntmps43
  go_wp2_with (go_at_call 32; refine (r_ver_yes _ (by omega) (by omega) _).mono ?_; rintro e w1 ⟨rfl, rfl⟩)
  go_ret2
  refine ⟨?_, rfl⟩
  first | rfl | (rw [Int.mul_comm]; rfl)
theorem r_held_no (v t : Int) (h : v < 0 ∨ 1099511627776 < v ∨ t < 0 ∨ 16 ≤ t) (w : World) :
    Calls Tryz.prog 43 #[.int .i64 v, .int .i64 t] w fun e w' => e = .returned (.tuple #[.int .u64 0, .int .i64 2]) ∧ w = w' := by
  by_cases hv : 0 ≤ v ∧ v ≤ 1099511627776
  · obtain ⟨h0, h1⟩ := hv
    have ht : t < 0 ∨ 16 ≤ t := by omega
    clear h
    rcases ht with ht | ht
    · go_enter Tryz.func43, Tryz.ntmps43
      go_wp2_with (go_at_call 32; refine (r_ver_yes _ (by omega) (by omega) _).mono ?_; rintro e w1 ⟨rfl, rfl⟩)
      go_ret2
      exact ⟨rfl, rfl⟩
    · go_enter Tryz.func43, Tryz.ntmps43
      go_wp2_with (go_at_call 32; refine (r_ver_yes _ (by omega) (by omega) _).mono ?_; rintro e w1 ⟨rfl, rfl⟩)
      go_ret2
      exact ⟨rfl, rfl⟩
  · have hv' : v < 0 ∨ 1099511627776 < v := by omega
    clear h hv
    go_enter Tryz.func43, Tryz.ntmps43
    go_wp2_with (go_at_call 32; refine (r_ver_no _ (by omega) _).mono ?_; rintro e w1 ⟨rfl, rfl⟩)
    go_ret2
    exact ⟨rfl, rfl⟩
theorem r_version (o : Int) (h0 : 0 ≤ o) (h1 : o ≤ 18446744073709551615) (w : World) :
    Calls Tryz.prog 44 #[.int .u64 o] w fun e w' => e = .returned (.int .i64 (o / 64)) ∧ w = w' := by
  go_enter Tryz.func44, Tryz.ntmps44
  go_wp2
  go_ret
  exact ⟨rfl, rfl⟩
theorem r_holder (o : Int) (h0 : 0 ≤ o) (h1 : o ≤ 18446744073709551615) (w : World) :
    Calls Tryz.prog 42 #[.int .u64 o] w fun e w' => e = .returned (.int .i64 (o % 64 - 1)) ∧ w = w' := by
  go_enter Tryz.func42, Tryz.ntmps42
  go_wp2
  go_ret
  exact ⟨rfl, rfl⟩
end Go.Proofs.YtphnadchdhblpaaGreat.WordC
