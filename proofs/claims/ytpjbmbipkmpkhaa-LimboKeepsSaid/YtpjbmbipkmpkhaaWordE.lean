/-
  Contracts of the functions of package word and of the reference of layer 1: each returns the number or the pair that the document gives, and changes nothing.
-/
import Derived.Test.YtpjbmbipkmpkhaaRows
import Derived.WalkKit
import Derived.ProofKit
import Derived.OpenShut
namespace Go.Proofs.Ytpjbmbipkmpkhaa.WordC
open Go.ChangeShapes Go.WideShapes Go.ChangeAt Go.RowKit
set_option linter.unusedVariables false

theorem w_ver_yes (v : Int) (h0 : 0 ≤ v) (h1 : v ≤ 1099511627776) (w : World) :
    Calls Try.prog 133 #[.int .i64 v] w fun e w' => e = .returned (.bool true) ∧ w = w' := by
  go_enter Try.func133, Try.ntmps133
  go_wp2
  go_ret
  exact ⟨rfl, rfl⟩
theorem w_ver_no (v : Int) (h : v < 0 ∨ 1099511627776 < v) (w : World) :
    Calls Try.prog 133 #[.int .i64 v] w fun e w' => e = .returned (.bool false) ∧ w = w' := by
  rcases h with h | h
  · have hd : decide (0 ≤ v) = false := by simpa using h
    go_enter Try.func133, Try.ntmps133
    go_wp2
    go_ret
    exact ⟨rfl, rfl⟩
  · have hd : decide (v ≤ 1099511627776) = false := by simpa using h
    by_cases h0 : 0 ≤ v
    · go_enter Try.func133, Try.ntmps133
      go_wp2
      go_ret
      exact ⟨rfl, rfl⟩
    · go_enter Try.func133, Try.ntmps133
      go_wp2
      go_ret
      exact ⟨rfl, rfl⟩
theorem w_top_yes (v : Int) (h0 : -1 ≤ v) (h1 : v < 64) (w : World) :
    Calls Try.prog 135 #[.int .i64 v] w fun e w' => e = .returned (.bool true) ∧ w = w' := by
  go_enter Try.func135, Try.ntmps135
  go_wp2
  go_ret
  exact ⟨rfl, rfl⟩
theorem w_top_no (v : Int) (h : v < -1 ∨ 64 ≤ v) (w : World) :
    Calls Try.prog 135 #[.int .i64 v] w fun e w' => e = .returned (.bool false) ∧ w = w' := by
  rcases h with h | h
  · have hd : decide (-1 ≤ v) = false := by simpa using h
    go_enter Try.func135, Try.ntmps135
    go_wp2
    go_ret
    exact ⟨rfl, rfl⟩
  · have hd : decide (v < 64) = false := by simpa using h
    have h1 : -1 ≤ v := by omega
    go_enter Try.func135, Try.ntmps135
    go_wp2
    go_ret
    exact ⟨rfl, rfl⟩
theorem w_active (v : Int) (h0 : 0 ≤ v) (h1 : v ≤ 1099511627776) (w : World) :
    Calls Try.prog 112 #[.int .i64 v] w fun e w' => e = .returned (.tuple #[.int .u64 (v + 2), .int .i64 0]) ∧ w = w' := by
  go_enter Try.func112, Try.ntmps112
  go_wp2_with (go_at_call 133; refine (w_ver_yes _ (by omega) (by omega) _).mono ?_; rintro e w1 ⟨rfl, rfl⟩)
  go_ret2
  exact ⟨rfl, rfl⟩
theorem w_active_no (v : Int) (h : v < 0 ∨ 1099511627776 < v) (w : World) :
    Calls Try.prog 112 #[.int .i64 v] w fun e w' => e = .returned (.tuple #[.int .u64 0, .int .i64 2]) ∧ w = w' := by
  go_enter Try.func112, Try.ntmps112
  go_wp2_with (go_at_call 133; refine (w_ver_no _ (by omega) _).mono ?_; rintro e w1 ⟨rfl, rfl⟩)
  go_ret2
  exact ⟨rfl, rfl⟩
theorem w_tag (o : Int) (h0 : 0 ≤ o) (h1 : o ≤ 18446744073709551615) (w : World) :
    Calls Try.prog 117 #[.int .u64 o] w fun e w' => e = .returned (.int .i64 (o / 65536)) ∧ w = w' := by
  go_enter Try.func117, Try.ntmps117
  go_wp2
  go_ret
  exact ⟨rfl, rfl⟩
theorem w_top (o : Int) (h0 : 0 ≤ o) (h1 : o ≤ 18446744073709551615) (w : World) :
    Calls Try.prog 91 #[.int .u64 o] w fun e w' => e = .returned (.int .i64 (o % 65536 - 1)) ∧ w = w' := by
  go_enter Try.func91, Try.ntmps91
  go_wp2
  go_ret
  exact ⟨rfl, rfl⟩
theorem w_state0  (w : World) :
    Calls Try.prog 113 #[.int .u64 0] w fun e w' => e = .returned (.int .i64 0) ∧ w = w' := by
  go_enter Try.func113, Try.ntmps113
  go_wp2
  go_ret
  exact ⟨rfl, rfl⟩
theorem w_state1  (w : World) :
    Calls Try.prog 113 #[.int .u64 1] w fun e w' => e = .returned (.int .i64 1) ∧ w = w' := by
  go_enter Try.func113, Try.ntmps113
  go_wp2
  go_ret
  exact ⟨rfl, rfl⟩
theorem w_state2 (o : Int) (h : 2 ≤ o) (h1 : o ≤ 18446744073709551615) (w : World) :
    Calls Try.prog 113 #[.int .u64 o] w fun e w' => e = .returned (.int .i64 2) ∧ w = w' := by
  have e0 : (o == 0) = false := by simp; omega
  have e1 : (o == 1) = false := by simp; omega
  go_enter Try.func113, Try.ntmps113
  go_wp2
  go_ret
  exact ⟨rfl, rfl⟩
theorem w_snap (o : Int) (h0 : 2 ≤ o) (h1 : o ≤ 1099511627778) (w : World) :
    Calls Try.prog 114 #[.int .u64 o] w fun e w' => e = .returned (.int .i64 (o - 2)) ∧ w = w' := by
  go_enter Try.func114, Try.ntmps114
  go_wp2
  go_ret
  exact ⟨rfl, rfl⟩
theorem w_snap_no (o : Int) (h0 : 0 ≤ o) (h1 : o ≤ 18446744073709551615) (h : o < 2 ∨ 1099511627778 < o) (w : World) :
    Calls Try.prog 114 #[.int .u64 o] w fun e w' => e = .returned (.int .i64 (-1)) ∧ w = w' := by
  rcases h with h | h
  · go_enter Try.func114, Try.ntmps114
    go_wp2
    go_ret
    exact ⟨rfl, rfl⟩
  · go_enter Try.func114, Try.ntmps114
    go_wp2
    go_ret
    exact ⟨rfl, rfl⟩
theorem w_head (g t : Int) (h0 : 0 ≤ g) (h1 : g < 281474976710656) (h2 : -1 ≤ t) (h3 : t < 64) (w : World) :
    Calls Try.prog 116 #[.int .i64 g, .int .i64 t] w fun e w' => e = .returned (.tuple #[.int .u64 (g * 65536 + (t + 1)), .int .i64 0]) ∧ w = w' := by
  go_enter Try.func116, Try.ntmps116
  go_wp2_with (go_at_call 135; refine (w_top_yes _ (by omega) (by omega) _).mono ?_; rintro e w1 ⟨rfl, rfl⟩)
  go_ret2
  refine ⟨?_, rfl⟩
  first | rfl | (rw [Int.mul_comm]; rfl)
theorem w_head_tag (g t : Int) (h : g < 0 ∨ 281474976710656 ≤ g) (w : World) :
    Calls Try.prog 116 #[.int .i64 g, .int .i64 t] w fun e w' => e = .returned (.tuple #[.int .u64 0, .int .i64 2]) ∧ w = w' := by
  rcases h with h | h
  · go_enter Try.func116, Try.ntmps116
    go_wp2
    go_ret2
    exact ⟨rfl, rfl⟩
  · go_enter Try.func116, Try.ntmps116
    go_wp2
    go_ret2
    exact ⟨rfl, rfl⟩
theorem w_head_top (g t : Int) (h0 : 0 ≤ g) (h1 : g < 281474976710656) (h : t < -1 ∨ 64 ≤ t) (w : World) :
    Calls Try.prog 116 #[.int .i64 g, .int .i64 t] w fun e w' => e = .returned (.tuple #[.int .u64 0, .int .i64 2]) ∧ w = w' := by
  rcases h with h | h
  · go_enter Try.func116, Try.ntmps116
    go_wp2_with (go_at_call 135; refine (w_top_no _ (by omega) _).mono ?_; rintro e w1 ⟨rfl, rfl⟩)
    go_ret2
    exact ⟨rfl, rfl⟩
  · go_enter Try.func116, Try.ntmps116
    go_wp2_with (go_at_call 135; refine (w_top_no _ (by omega) _).mono ?_; rintro e w1 ⟨rfl, rfl⟩)
    go_ret2
    exact ⟨rfl, rfl⟩
theorem w_bump (o t : Int) (h0 : 0 ≤ o) (h1 : o ≤ 18446744073709551615) (h2 : -1 ≤ t) (h3 : t < 64) (w : World) :
    Calls Try.prog 92 #[.int .u64 o, .int .i64 t] w fun e w' => e = .returned (.tuple #[.int .u64 ((o / 65536 + 1) % 281474976710656 * 65536 + (t + 1)), .int .i64 0]) ∧ w = w' := by
  have b0 : 0 ≤ o / 65536 := by omega
  have b1 : o / 65536 ≤ 281474976710655 := by omega
  go_enter Try.func92, Try.ntmps92
  go_wp2_with (first | (go_at_call 117; refine (w_tag _ (by omega) (by omega) _).mono ?_; rintro e w1 ⟨rfl, rfl⟩) | (go_at_call 116; refine (w_head _ _ (by omega) (by omega) (by omega) (by omega) _).mono ?_; rintro e w1 ⟨rfl, rfl⟩))
  go_ret2
  exact ⟨rfl, rfl⟩
theorem w_bump_no (o t : Int) (h0 : 0 ≤ o) (h1 : o ≤ 18446744073709551615) (h : t < -1 ∨ 64 ≤ t) (w : World) :
    Calls Try.prog 92 #[.int .u64 o, .int .i64 t] w fun e w' => e = .returned (.tuple #[.int .u64 0, .int .i64 2]) ∧ w = w' := by
  have b0 : 0 ≤ o / 65536 := by omega
  have b1 : o / 65536 ≤ 281474976710655 := by omega
  go_enter Try.func92, Try.ntmps92
  go_wp2_with (first | (go_at_call 117; refine (w_tag _ (by omega) (by omega) _).mono ?_; rintro e w1 ⟨rfl, rfl⟩) | (go_at_call 116; refine (w_head_top _ _ (by omega) (by omega) (by omega) _).mono ?_; rintro e w1 ⟨rfl, rfl⟩))
  go_ret2
  exact ⟨rfl, rfl⟩
theorem r_tag (o : Int) (h0 : 0 ≤ o) (h1 : o ≤ 18446744073709551615) (w : World) :
    Calls Try.prog 119 #[.int .u64 o] w fun e w' => e = .returned (.int .i64 (o / 65536)) ∧ w = w' := by
  go_enter Try.func119, Try.ntmps119
  go_wp2
  go_ret
  exact ⟨rfl, rfl⟩
theorem r_top (o : Int) (h0 : 0 ≤ o) (h1 : o ≤ 18446744073709551615) (w : World) :
    Calls Try.prog 94 #[.int .u64 o] w fun e w' => e = .returned (.int .i64 (o % 65536 - 1)) ∧ w = w' := by
  go_enter Try.func94, Try.ntmps94
  go_wp2
  go_ret
  exact ⟨rfl, rfl⟩
theorem r_head (g t : Int) (h0 : 0 ≤ g) (h1 : g < 281474976710656) (h2 : -1 ≤ t) (h3 : t < 64) (w : World) :
    Calls Try.prog 118 #[.int .i64 g, .int .i64 t] w fun e w' => e = .returned (.tuple #[.int .u64 (g * 65536 + (t + 1)), .int .i64 0]) ∧ w = w' := by
  go_enter Try.func118, Try.ntmps118
  go_wp2_with fail
  go_ret2
  refine ⟨?_, rfl⟩
  first | rfl | (rw [Int.mul_comm]; rfl)
theorem r_head_tag (g t : Int) (h : g < 0 ∨ 281474976710656 ≤ g) (w : World) :
    Calls Try.prog 118 #[.int .i64 g, .int .i64 t] w fun e w' => e = .returned (.tuple #[.int .u64 0, .int .i64 2]) ∧ w = w' := by
  rcases h with h | h
  · go_enter Try.func118, Try.ntmps118
    go_wp2
    go_ret2
    exact ⟨rfl, rfl⟩
  · go_enter Try.func118, Try.ntmps118
    go_wp2
    go_ret2
    exact ⟨rfl, rfl⟩
theorem r_head_top (g t : Int) (h0 : 0 ≤ g) (h1 : g < 281474976710656) (h : t < -1 ∨ 64 ≤ t) (w : World) :
    Calls Try.prog 118 #[.int .i64 g, .int .i64 t] w fun e w' => e = .returned (.tuple #[.int .u64 0, .int .i64 2]) ∧ w = w' := by
  rcases h with h | h
  · go_enter Try.func118, Try.ntmps118
    go_wp2_with fail
    go_ret2
    exact ⟨rfl, rfl⟩
  · go_enter Try.func118, Try.ntmps118
    go_wp2_with fail
    go_ret2
    exact ⟨rfl, rfl⟩
theorem r_bump (o t : Int) (h0 : 0 ≤ o) (h1 : o ≤ 18446744073709551615) (h2 : -1 ≤ t) (h3 : t < 64) (w : World) :
    Calls Try.prog 95 #[.int .u64 o, .int .i64 t] w fun e w' => e = .returned (.tuple #[.int .u64 ((o / 65536 + 1) % 281474976710656 * 65536 + (t + 1)), .int .i64 0]) ∧ w = w' := by
  have b0 : 0 ≤ o / 65536 := by omega
  have b1 : o / 65536 ≤ 281474976710655 := by omega
  go_enter Try.func95, Try.ntmps95
  go_wp2_with (first | (go_at_call 119; refine (r_tag _ (by omega) (by omega) _).mono ?_; rintro e w1 ⟨rfl, rfl⟩) | (go_at_call 118; refine (r_head _ _ (by omega) (by omega) (by omega) (by omega) _).mono ?_; rintro e w1 ⟨rfl, rfl⟩))
  go_ret2
  exact ⟨rfl, rfl⟩
theorem r_bump_no (o t : Int) (h0 : 0 ≤ o) (h1 : o ≤ 18446744073709551615) (h : t < -1 ∨ 64 ≤ t) (w : World) :
    Calls Try.prog 95 #[.int .u64 o, .int .i64 t] w fun e w' => e = .returned (.tuple #[.int .u64 0, .int .i64 2]) ∧ w = w' := by
  have b0 : 0 ≤ o / 65536 := by omega
  have b1 : o / 65536 ≤ 281474976710655 := by omega
  go_enter Try.func95, Try.ntmps95
  go_wp2_with (first | (go_at_call 119; refine (r_tag _ (by omega) (by omega) _).mono ?_; rintro e w1 ⟨rfl, rfl⟩) | (go_at_call 118; refine (r_head_top _ _ (by omega) (by omega) (by omega) _).mono ?_; rintro e w1 ⟨rfl, rfl⟩))
  go_ret2
  exact ⟨rfl, rfl⟩
end Go.Proofs.Ytpjbmbipkmpkhaa.WordC
