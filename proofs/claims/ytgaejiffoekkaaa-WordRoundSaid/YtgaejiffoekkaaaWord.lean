/-
  Contracts of the functions of package word and of the reference of layer 1: each returns the number or the pair that the document gives, and changes nothing.
-/
import Derived.Test.YtgaejiffoekkaaaRows
import Derived.WalkKit
import Derived.ProofKit
import Derived.OpenShut
namespace Go.Proofs.Ytgaejiffoekkaaa.WordC
open Go.ChangeShapes Go.WideShapes Go.ChangeAt Go.RowKit
set_option linter.unusedVariables false

theorem w_ver_yes (v : Int) (h0 : 0 ≤ v) (h1 : v ≤ 1099511627776) (w : World) :
    Calls Try.prog 32 #[.int .i64 v] w fun e w' => e = .returned (.bool true) ∧ w = w' := by
  go_enter Try.func32, Try.ntmps32
  go_wp2
  go_ret
  exact ⟨rfl, rfl⟩
theorem w_ver_no (v : Int) (h : v < 0 ∨ 1099511627776 < v) (w : World) :
    Calls Try.prog 32 #[.int .i64 v] w fun e w' => e = .returned (.bool false) ∧ w = w' := by
  rcases h with h | h
  · have hd : decide (0 ≤ v) = false := by simpa using h
    go_enter Try.func32, Try.ntmps32
    go_wp2
    go_ret
    exact ⟨rfl, rfl⟩
  · have hd : decide (v ≤ 1099511627776) = false := by simpa using h
    by_cases h0 : 0 ≤ v
    · go_enter Try.func32, Try.ntmps32
      go_wp2
      go_ret
      exact ⟨rfl, rfl⟩
    · go_enter Try.func32, Try.ntmps32
      go_wp2
      go_ret
      exact ⟨rfl, rfl⟩
theorem r_ver_yes (v : Int) (h0 : 0 ≤ v) (h1 : v ≤ 1099511627776) (w : World) :
    Calls Try.prog 33 #[.int .i64 v] w fun e w' => e = .returned (.bool true) ∧ w = w' := by
  go_enter Try.func33, Try.ntmps33
  go_wp2
  go_ret
  exact ⟨rfl, rfl⟩
theorem r_ver_no (v : Int) (h : v < 0 ∨ 1099511627776 < v) (w : World) :
    Calls Try.prog 33 #[.int .i64 v] w fun e w' => e = .returned (.bool false) ∧ w = w' := by
  rcases h with h | h
  · have hd : decide (0 ≤ v) = false := by simpa using h
    go_enter Try.func33, Try.ntmps33
    go_wp2
    go_ret
    exact ⟨rfl, rfl⟩
  · have hd : decide (v ≤ 1099511627776) = false := by simpa using h
    by_cases h0 : 0 ≤ v
    · go_enter Try.func33, Try.ntmps33
      go_wp2
      go_ret
      exact ⟨rfl, rfl⟩
    · go_enter Try.func33, Try.ntmps33
      go_wp2
      go_ret
      exact ⟨rfl, rfl⟩
theorem w_top_yes (v : Int) (h0 : -1 ≤ v) (h1 : v < 64) (w : World) :
    Calls Try.prog 34 #[.int .i64 v] w fun e w' => e = .returned (.bool true) ∧ w = w' := by
  go_enter Try.func34, Try.ntmps34
  go_wp2
  go_ret
  exact ⟨rfl, rfl⟩
theorem w_top_no (v : Int) (h : v < -1 ∨ 64 ≤ v) (w : World) :
    Calls Try.prog 34 #[.int .i64 v] w fun e w' => e = .returned (.bool false) ∧ w = w' := by
  rcases h with h | h
  · have hd : decide (-1 ≤ v) = false := by simpa using h
    go_enter Try.func34, Try.ntmps34
    go_wp2
    go_ret
    exact ⟨rfl, rfl⟩
  · have hd : decide (v < 64) = false := by simpa using h
    have h1 : -1 ≤ v := by omega
    go_enter Try.func34, Try.ntmps34
    go_wp2
    go_ret
    exact ⟨rfl, rfl⟩
theorem w_free (v : Int) (h0 : 0 ≤ v) (h1 : v ≤ 1099511627776) (w : World) :
    Calls Try.prog 9 #[.int .i64 v] w fun e w' => e = .returned (.tuple #[.int .u64 (v * 64), .int .i64 0]) ∧ w = w' := by
  go_enter Try.func9, Try.ntmps9
  go_wp2_with (go_at_call 32; refine (w_ver_yes _ (by omega) (by omega) _).mono ?_; rintro e w1 ⟨rfl, rfl⟩)
  go_ret2
  refine ⟨?_, rfl⟩
  first | rfl | (rw [Int.mul_comm]; rfl)
theorem w_free_no (v : Int) (h : v < 0 ∨ 1099511627776 < v) (w : World) :
    Calls Try.prog 9 #[.int .i64 v] w fun e w' => e = .returned (.tuple #[.int .u64 0, .int .i64 2]) ∧ w = w' := by
  go_enter Try.func9, Try.ntmps9
  go_wp2_with (go_at_call 32; refine (w_ver_no _ (by omega) _).mono ?_; rintro e w1 ⟨rfl, rfl⟩)
  go_ret2
  exact ⟨rfl, rfl⟩
theorem w_held (v t : Int) (h0 : 0 ≤ v) (h1 : v ≤ 1099511627776) (h2 : 0 ≤ t) (h3 : t < 16) (w : World) :
    Calls Try.prog 11 #[.int .i64 v, .int .i64 t] w fun e w' => e = .returned (.tuple #[.int .u64 (v * 64 + t + 1), .int .i64 0]) ∧ w = w' := by
  go_enter Try.func11, Try.ntmps11
  go_wp2_with (go_at_call 32; refine (w_ver_yes _ (by omega) (by omega) _).mono ?_; rintro e w1 ⟨rfl, rfl⟩)
  go_ret2
  refine ⟨?_, rfl⟩
  first | rfl | (rw [Int.mul_comm]; rfl)
theorem w_held_no (v t : Int) (h : v < 0 ∨ 1099511627776 < v ∨ t < 0 ∨ 16 ≤ t) (w : World) :
    Calls Try.prog 11 #[.int .i64 v, .int .i64 t] w fun e w' => e = .returned (.tuple #[.int .u64 0, .int .i64 2]) ∧ w = w' := by
  by_cases hv : 0 ≤ v ∧ v ≤ 1099511627776
  · obtain ⟨h0, h1⟩ := hv
    have ht : t < 0 ∨ 16 ≤ t := by omega
    clear h
    rcases ht with ht | ht
    · go_enter Try.func11, Try.ntmps11
      go_wp2_with (go_at_call 32; refine (w_ver_yes _ (by omega) (by omega) _).mono ?_; rintro e w1 ⟨rfl, rfl⟩)
      go_ret2
      exact ⟨rfl, rfl⟩
    · go_enter Try.func11, Try.ntmps11
      go_wp2_with (go_at_call 32; refine (w_ver_yes _ (by omega) (by omega) _).mono ?_; rintro e w1 ⟨rfl, rfl⟩)
      go_ret2
      exact ⟨rfl, rfl⟩
  · have hv' : v < 0 ∨ 1099511627776 < v := by omega
    clear h hv
    go_enter Try.func11, Try.ntmps11
    go_wp2_with (go_at_call 32; refine (w_ver_no _ (by omega) _).mono ?_; rintro e w1 ⟨rfl, rfl⟩)
    go_ret2
    exact ⟨rfl, rfl⟩
theorem w_active (v : Int) (h0 : 0 ≤ v) (h1 : v ≤ 1099511627776) (w : World) :
    Calls Try.prog 26 #[.int .i64 v] w fun e w' => e = .returned (.tuple #[.int .u64 (v + 2), .int .i64 0]) ∧ w = w' := by
  go_enter Try.func26, Try.ntmps26
  go_wp2_with (go_at_call 32; refine (w_ver_yes _ (by omega) (by omega) _).mono ?_; rintro e w1 ⟨rfl, rfl⟩)
  go_ret2
  exact ⟨rfl, rfl⟩
theorem w_active_no (v : Int) (h : v < 0 ∨ 1099511627776 < v) (w : World) :
    Calls Try.prog 26 #[.int .i64 v] w fun e w' => e = .returned (.tuple #[.int .u64 0, .int .i64 2]) ∧ w = w' := by
  go_enter Try.func26, Try.ntmps26
  go_wp2_with (go_at_call 32; refine (w_ver_no _ (by omega) _).mono ?_; rintro e w1 ⟨rfl, rfl⟩)
  go_ret2
  exact ⟨rfl, rfl⟩
theorem w_version (o : Int) (h0 : 0 ≤ o) (h1 : o ≤ 18446744073709551615) (w : World) :
    Calls Try.prog 14 #[.int .u64 o] w fun e w' => e = .returned (.int .i64 (o / 64)) ∧ w = w' := by
  go_enter Try.func14, Try.ntmps14
  go_wp2
  go_ret
  exact ⟨rfl, rfl⟩
theorem w_holder (o : Int) (h0 : 0 ≤ o) (h1 : o ≤ 18446744073709551615) (w : World) :
    Calls Try.prog 16 #[.int .u64 o] w fun e w' => e = .returned (.int .i64 (o % 64 - 1)) ∧ w = w' := by
  go_enter Try.func16, Try.ntmps16
  go_wp2
  go_ret
  exact ⟨rfl, rfl⟩
theorem w_tag (o : Int) (h0 : 0 ≤ o) (h1 : o ≤ 18446744073709551615) (w : World) :
    Calls Try.prog 22 #[.int .u64 o] w fun e w' => e = .returned (.int .i64 (o / 65536)) ∧ w = w' := by
  go_enter Try.func22, Try.ntmps22
  go_wp2
  go_ret
  exact ⟨rfl, rfl⟩
theorem w_top (o : Int) (h0 : 0 ≤ o) (h1 : o ≤ 18446744073709551615) (w : World) :
    Calls Try.prog 24 #[.int .u64 o] w fun e w' => e = .returned (.int .i64 (o % 65536 - 1)) ∧ w = w' := by
  go_enter Try.func24, Try.ntmps24
  go_wp2
  go_ret
  exact ⟨rfl, rfl⟩
theorem w_state0  (w : World) :
    Calls Try.prog 18 #[.int .u64 0] w fun e w' => e = .returned (.int .i64 0) ∧ w = w' := by
  go_enter Try.func18, Try.ntmps18
  go_wp2
  go_ret
  exact ⟨rfl, rfl⟩
theorem w_state1  (w : World) :
    Calls Try.prog 18 #[.int .u64 1] w fun e w' => e = .returned (.int .i64 1) ∧ w = w' := by
  go_enter Try.func18, Try.ntmps18
  go_wp2
  go_ret
  exact ⟨rfl, rfl⟩
theorem w_state2 (o : Int) (h : 2 ≤ o) (h1 : o ≤ 18446744073709551615) (w : World) :
    Calls Try.prog 18 #[.int .u64 o] w fun e w' => e = .returned (.int .i64 2) ∧ w = w' := by
  have e0 : (o == 0) = false := by simp; omega
  have e1 : (o == 1) = false := by simp; omega
  go_enter Try.func18, Try.ntmps18
  go_wp2
  go_ret
  exact ⟨rfl, rfl⟩
theorem w_snap (o : Int) (h0 : 2 ≤ o) (h1 : o ≤ 1099511627778) (w : World) :
    Calls Try.prog 20 #[.int .u64 o] w fun e w' => e = .returned (.int .i64 (o - 2)) ∧ w = w' := by
  go_enter Try.func20, Try.ntmps20
  go_wp2
  go_ret
  exact ⟨rfl, rfl⟩
theorem w_snap_no (o : Int) (h0 : 0 ≤ o) (h1 : o ≤ 18446744073709551615) (h : o < 2 ∨ 1099511627778 < o) (w : World) :
    Calls Try.prog 20 #[.int .u64 o] w fun e w' => e = .returned (.int .i64 (-1)) ∧ w = w' := by
  rcases h with h | h
  · go_enter Try.func20, Try.ntmps20
    go_wp2
    go_ret
    exact ⟨rfl, rfl⟩
  · go_enter Try.func20, Try.ntmps20
    go_wp2
    go_ret
    exact ⟨rfl, rfl⟩
theorem w_head (g t : Int) (h0 : 0 ≤ g) (h1 : g < 281474976710656) (h2 : -1 ≤ t) (h3 : t < 64) (w : World) :
    Calls Try.prog 28 #[.int .i64 g, .int .i64 t] w fun e w' => e = .returned (.tuple #[.int .u64 (g * 65536 + (t + 1)), .int .i64 0]) ∧ w = w' := by
  go_enter Try.func28, Try.ntmps28
  go_wp2_with (go_at_call 34; refine (w_top_yes _ (by omega) (by omega) _).mono ?_; rintro e w1 ⟨rfl, rfl⟩)
  go_ret2
  refine ⟨?_, rfl⟩
  first | rfl | (rw [Int.mul_comm]; rfl)
theorem w_head_tag (g t : Int) (h : g < 0 ∨ 281474976710656 ≤ g) (w : World) :
    Calls Try.prog 28 #[.int .i64 g, .int .i64 t] w fun e w' => e = .returned (.tuple #[.int .u64 0, .int .i64 2]) ∧ w = w' := by
  rcases h with h | h
  · go_enter Try.func28, Try.ntmps28
    go_wp2
    go_ret2
    exact ⟨rfl, rfl⟩
  · go_enter Try.func28, Try.ntmps28
    go_wp2
    go_ret2
    exact ⟨rfl, rfl⟩
theorem w_head_top (g t : Int) (h0 : 0 ≤ g) (h1 : g < 281474976710656) (h : t < -1 ∨ 64 ≤ t) (w : World) :
    Calls Try.prog 28 #[.int .i64 g, .int .i64 t] w fun e w' => e = .returned (.tuple #[.int .u64 0, .int .i64 2]) ∧ w = w' := by
  rcases h with h | h
  · go_enter Try.func28, Try.ntmps28
    go_wp2_with (go_at_call 34; refine (w_top_no _ (by omega) _).mono ?_; rintro e w1 ⟨rfl, rfl⟩)
    go_ret2
    exact ⟨rfl, rfl⟩
  · go_enter Try.func28, Try.ntmps28
    go_wp2_with (go_at_call 34; refine (w_top_no _ (by omega) _).mono ?_; rintro e w1 ⟨rfl, rfl⟩)
    go_ret2
    exact ⟨rfl, rfl⟩
theorem w_bump (o t : Int) (h0 : 0 ≤ o) (h1 : o ≤ 18446744073709551615) (h2 : -1 ≤ t) (h3 : t < 64) (w : World) :
    Calls Try.prog 30 #[.int .u64 o, .int .i64 t] w fun e w' => e = .returned (.tuple #[.int .u64 ((o / 65536 + 1) % 281474976710656 * 65536 + (t + 1)), .int .i64 0]) ∧ w = w' := by
  have b0 : 0 ≤ o / 65536 := by omega
  have b1 : o / 65536 ≤ 281474976710655 := by omega
  go_enter Try.func30, Try.ntmps30
  go_wp2_with (first | (go_at_call 22; refine (w_tag _ (by omega) (by omega) _).mono ?_; rintro e w1 ⟨rfl, rfl⟩) | (go_at_call 28; refine (w_head _ _ (by omega) (by omega) (by omega) (by omega) _).mono ?_; rintro e w1 ⟨rfl, rfl⟩))
  go_ret2
  exact ⟨rfl, rfl⟩
theorem w_bump_no (o t : Int) (h0 : 0 ≤ o) (h1 : o ≤ 18446744073709551615) (h : t < -1 ∨ 64 ≤ t) (w : World) :
    Calls Try.prog 30 #[.int .u64 o, .int .i64 t] w fun e w' => e = .returned (.tuple #[.int .u64 0, .int .i64 2]) ∧ w = w' := by
  have b0 : 0 ≤ o / 65536 := by omega
  have b1 : o / 65536 ≤ 281474976710655 := by omega
  go_enter Try.func30, Try.ntmps30
  go_wp2_with (first | (go_at_call 22; refine (w_tag _ (by omega) (by omega) _).mono ?_; rintro e w1 ⟨rfl, rfl⟩) | (go_at_call 28; refine (w_head_top _ _ (by omega) (by omega) (by omega) _).mono ?_; rintro e w1 ⟨rfl, rfl⟩))
  go_ret2
  exact ⟨rfl, rfl⟩
theorem r_free (v : Int) (h0 : 0 ≤ v) (h1 : v ≤ 1099511627776) (w : World) :
    Calls Try.prog 10 #[.int .i64 v] w fun e w' => e = .returned (.tuple #[.int .u64 (v * 64), .int .i64 0]) ∧ w = w' := by
  go_enter Try.func10, Try.ntmps10
  go_wp2_with (go_at_call 33; refine (r_ver_yes _ (by omega) (by omega) _).mono ?_; rintro e w1 ⟨rfl, rfl⟩)
  go_ret2
  refine ⟨?_, rfl⟩
  first | rfl | (rw [Int.mul_comm]; rfl)
theorem r_free_no (v : Int) (h : v < 0 ∨ 1099511627776 < v) (w : World) :
    Calls Try.prog 10 #[.int .i64 v] w fun e w' => e = .returned (.tuple #[.int .u64 0, .int .i64 2]) ∧ w = w' := by
  go_enter Try.func10, Try.ntmps10
  go_wp2_with (go_at_call 33; refine (r_ver_no _ (by omega) _).mono ?_; rintro e w1 ⟨rfl, rfl⟩)
  go_ret2
  exact ⟨rfl, rfl⟩
theorem r_held (v t : Int) (h0 : 0 ≤ v) (h1 : v ≤ 1099511627776) (h2 : 0 ≤ t) (h3 : t < 16) (w : World) :
    Calls Try.prog 12 #[.int .i64 v, .int .i64 t] w fun e w' => e = .returned (.tuple #[.int .u64 (v * 64 + t + 1), .int .i64 0]) ∧ w = w' := by
  go_enter Try.func12, Try.ntmps12
  go_wp2_with (go_at_call 33; refine (r_ver_yes _ (by omega) (by omega) _).mono ?_; rintro e w1 ⟨rfl, rfl⟩)
  go_ret2
  refine ⟨?_, rfl⟩
  first | rfl | (rw [Int.mul_comm]; rfl)
theorem r_held_no (v t : Int) (h : v < 0 ∨ 1099511627776 < v ∨ t < 0 ∨ 16 ≤ t) (w : World) :
    Calls Try.prog 12 #[.int .i64 v, .int .i64 t] w fun e w' => e = .returned (.tuple #[.int .u64 0, .int .i64 2]) ∧ w = w' := by
  by_cases hv : 0 ≤ v ∧ v ≤ 1099511627776
  · obtain ⟨h0, h1⟩ := hv
    have ht : t < 0 ∨ 16 ≤ t := by omega
    clear h
    rcases ht with ht | ht
    · go_enter Try.func12, Try.ntmps12
      go_wp2_with (go_at_call 33; refine (r_ver_yes _ (by omega) (by omega) _).mono ?_; rintro e w1 ⟨rfl, rfl⟩)
      go_ret2
      exact ⟨rfl, rfl⟩
    · go_enter Try.func12, Try.ntmps12
      go_wp2_with (go_at_call 33; refine (r_ver_yes _ (by omega) (by omega) _).mono ?_; rintro e w1 ⟨rfl, rfl⟩)
      go_ret2
      exact ⟨rfl, rfl⟩
  · have hv' : v < 0 ∨ 1099511627776 < v := by omega
    clear h hv
    go_enter Try.func12, Try.ntmps12
    go_wp2_with (go_at_call 33; refine (r_ver_no _ (by omega) _).mono ?_; rintro e w1 ⟨rfl, rfl⟩)
    go_ret2
    exact ⟨rfl, rfl⟩
theorem r_active (v : Int) (h0 : 0 ≤ v) (h1 : v ≤ 1099511627776) (w : World) :
    Calls Try.prog 27 #[.int .i64 v] w fun e w' => e = .returned (.tuple #[.int .u64 (v + 2), .int .i64 0]) ∧ w = w' := by
  go_enter Try.func27, Try.ntmps27
  go_wp2_with (go_at_call 33; refine (r_ver_yes _ (by omega) (by omega) _).mono ?_; rintro e w1 ⟨rfl, rfl⟩)
  go_ret2
  exact ⟨rfl, rfl⟩
theorem r_active_no (v : Int) (h : v < 0 ∨ 1099511627776 < v) (w : World) :
    Calls Try.prog 27 #[.int .i64 v] w fun e w' => e = .returned (.tuple #[.int .u64 0, .int .i64 2]) ∧ w = w' := by
  go_enter Try.func27, Try.ntmps27
  go_wp2_with (go_at_call 33; refine (r_ver_no _ (by omega) _).mono ?_; rintro e w1 ⟨rfl, rfl⟩)
  go_ret2
  exact ⟨rfl, rfl⟩
theorem r_version (o : Int) (h0 : 0 ≤ o) (h1 : o ≤ 18446744073709551615) (w : World) :
    Calls Try.prog 15 #[.int .u64 o] w fun e w' => e = .returned (.int .i64 (o / 64)) ∧ w = w' := by
  go_enter Try.func15, Try.ntmps15
  go_wp2
  go_ret
  exact ⟨rfl, rfl⟩
theorem r_holder (o : Int) (h0 : 0 ≤ o) (h1 : o ≤ 18446744073709551615) (w : World) :
    Calls Try.prog 17 #[.int .u64 o] w fun e w' => e = .returned (.int .i64 (o % 64 - 1)) ∧ w = w' := by
  go_enter Try.func17, Try.ntmps17
  go_wp2
  go_ret
  exact ⟨rfl, rfl⟩
theorem r_tag (o : Int) (h0 : 0 ≤ o) (h1 : o ≤ 18446744073709551615) (w : World) :
    Calls Try.prog 23 #[.int .u64 o] w fun e w' => e = .returned (.int .i64 (o / 65536)) ∧ w = w' := by
  go_enter Try.func23, Try.ntmps23
  go_wp2
  go_ret
  exact ⟨rfl, rfl⟩
theorem r_top (o : Int) (h0 : 0 ≤ o) (h1 : o ≤ 18446744073709551615) (w : World) :
    Calls Try.prog 25 #[.int .u64 o] w fun e w' => e = .returned (.int .i64 (o % 65536 - 1)) ∧ w = w' := by
  go_enter Try.func25, Try.ntmps25
  go_wp2
  go_ret
  exact ⟨rfl, rfl⟩
theorem r_state0  (w : World) :
    Calls Try.prog 19 #[.int .u64 0] w fun e w' => e = .returned (.int .i64 0) ∧ w = w' := by
  go_enter Try.func19, Try.ntmps19
  go_wp2
  go_ret
  exact ⟨rfl, rfl⟩
theorem r_state1  (w : World) :
    Calls Try.prog 19 #[.int .u64 1] w fun e w' => e = .returned (.int .i64 1) ∧ w = w' := by
  go_enter Try.func19, Try.ntmps19
  go_wp2
  go_ret
  exact ⟨rfl, rfl⟩
theorem r_state2 (o : Int) (h : 2 ≤ o) (h1 : o ≤ 18446744073709551615) (w : World) :
    Calls Try.prog 19 #[.int .u64 o] w fun e w' => e = .returned (.int .i64 2) ∧ w = w' := by
  go_enter Try.func19, Try.ntmps19
  go_wp2
  go_ret
  exact ⟨rfl, rfl⟩
theorem r_snap (o : Int) (h0 : 2 ≤ o) (h1 : o ≤ 1099511627778) (w : World) :
    Calls Try.prog 21 #[.int .u64 o] w fun e w' => e = .returned (.int .i64 (o - 2)) ∧ w = w' := by
  go_enter Try.func21, Try.ntmps21
  go_wp2
  go_ret
  exact ⟨rfl, rfl⟩
theorem r_snap_no (o : Int) (h0 : 0 ≤ o) (h1 : o ≤ 18446744073709551615) (h : o < 2 ∨ 1099511627778 < o) (w : World) :
    Calls Try.prog 21 #[.int .u64 o] w fun e w' => e = .returned (.int .i64 (-1)) ∧ w = w' := by
  rcases h with h | h
  · go_enter Try.func21, Try.ntmps21
    go_wp2
    go_ret
    exact ⟨rfl, rfl⟩
  · go_enter Try.func21, Try.ntmps21
    go_wp2
    go_ret
    exact ⟨rfl, rfl⟩
theorem r_head (g t : Int) (h0 : 0 ≤ g) (h1 : g < 281474976710656) (h2 : -1 ≤ t) (h3 : t < 64) (w : World) :
    Calls Try.prog 29 #[.int .i64 g, .int .i64 t] w fun e w' => e = .returned (.tuple #[.int .u64 (g * 65536 + (t + 1)), .int .i64 0]) ∧ w = w' := by
  go_enter Try.func29, Try.ntmps29
  go_wp2_with fail
  go_ret2
  refine ⟨?_, rfl⟩
  first | rfl | (rw [Int.mul_comm]; rfl)
theorem r_head_tag (g t : Int) (h : g < 0 ∨ 281474976710656 ≤ g) (w : World) :
    Calls Try.prog 29 #[.int .i64 g, .int .i64 t] w fun e w' => e = .returned (.tuple #[.int .u64 0, .int .i64 2]) ∧ w = w' := by
  rcases h with h | h
  · go_enter Try.func29, Try.ntmps29
    go_wp2
    go_ret2
    exact ⟨rfl, rfl⟩
  · go_enter Try.func29, Try.ntmps29
    go_wp2
    go_ret2
    exact ⟨rfl, rfl⟩
theorem r_head_top (g t : Int) (h0 : 0 ≤ g) (h1 : g < 281474976710656) (h : t < -1 ∨ 64 ≤ t) (w : World) :
    Calls Try.prog 29 #[.int .i64 g, .int .i64 t] w fun e w' => e = .returned (.tuple #[.int .u64 0, .int .i64 2]) ∧ w = w' := by
  rcases h with h | h
  · go_enter Try.func29, Try.ntmps29
    go_wp2_with fail
    go_ret2
    exact ⟨rfl, rfl⟩
  · go_enter Try.func29, Try.ntmps29
    go_wp2_with fail
    go_ret2
    exact ⟨rfl, rfl⟩
theorem r_bump (o t : Int) (h0 : 0 ≤ o) (h1 : o ≤ 18446744073709551615) (h2 : -1 ≤ t) (h3 : t < 64) (w : World) :
    Calls Try.prog 31 #[.int .u64 o, .int .i64 t] w fun e w' => e = .returned (.tuple #[.int .u64 ((o / 65536 + 1) % 281474976710656 * 65536 + (t + 1)), .int .i64 0]) ∧ w = w' := by
  have b0 : 0 ≤ o / 65536 := by omega
  have b1 : o / 65536 ≤ 281474976710655 := by omega
  go_enter Try.func31, Try.ntmps31
  go_wp2_with (first | (go_at_call 23; refine (r_tag _ (by omega) (by omega) _).mono ?_; rintro e w1 ⟨rfl, rfl⟩) | (go_at_call 29; refine (r_head _ _ (by omega) (by omega) (by omega) (by omega) _).mono ?_; rintro e w1 ⟨rfl, rfl⟩))
  go_ret2
  exact ⟨rfl, rfl⟩
theorem r_bump_no (o t : Int) (h0 : 0 ≤ o) (h1 : o ≤ 18446744073709551615) (h : t < -1 ∨ 64 ≤ t) (w : World) :
    Calls Try.prog 31 #[.int .u64 o, .int .i64 t] w fun e w' => e = .returned (.tuple #[.int .u64 0, .int .i64 2]) ∧ w = w' := by
  have b0 : 0 ≤ o / 65536 := by omega
  have b1 : o / 65536 ≤ 281474976710655 := by omega
  go_enter Try.func31, Try.ntmps31
  go_wp2_with (first | (go_at_call 23; refine (r_tag _ (by omega) (by omega) _).mono ?_; rintro e w1 ⟨rfl, rfl⟩) | (go_at_call 29; refine (r_head_top _ _ (by omega) (by omega) (by omega) _).mono ?_; rintro e w1 ⟨rfl, rfl⟩))
  go_ret2
  exact ⟨rfl, rfl⟩
theorem awake  (w : World) :
    Calls Try.prog 13 #[] w fun e w' => e = .returned (.bool true) ∧ w = w' := by
  go_enter Try.func13, Try.ntmps13
  go_wp2_with (first | (go_at_call 11; refine (w_held _ _ (by omega) (by omega) (by omega) (by omega) _).mono ?_; rintro e w1 ⟨rfl, rfl⟩) | (go_at_call 28; refine (w_head _ _ (by omega) (by omega) (by omega) (by omega) _).mono ?_; rintro e w1 ⟨rfl, rfl⟩) | (go_at_call 14; refine (w_version _ (by omega) (by omega) _).mono ?_; rintro e w1 ⟨rfl, rfl⟩) | (go_at_call 16; refine (w_holder _ (by omega) (by omega) _).mono ?_; rintro e w1 ⟨rfl, rfl⟩))
  go_ret
  exact ⟨rfl, rfl⟩
end Go.Proofs.Ytgaejiffoekkaaa.WordC
