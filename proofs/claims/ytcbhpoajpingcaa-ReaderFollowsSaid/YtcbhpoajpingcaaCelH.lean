/-
  Contracts of the reference of layer 8: has, set.
-/
import Derived.Test.YtcbhpoajpingcaaCelZ
namespace Go.Proofs.Ytcbhpoajpingcaa.CelH
open Go.ChangeShapes Go.WideShapes Go.ChangeAt Go.RowKit
open PlainT BlkW LayS LayA CelS CelM CelV CelN CelF CelZ
set_option linter.unusedVariables false
set_option maxHeartbeats 1000000
set_option maxRecDepth 100000
theorem r_has (lo hi : Nat) (w : World) (rb : Nat) (q : Cfg) (A : Int → List Int) (h : RefIs lo hi w rb q A) (hout : ∀ k, ¬ (1 ≤ k ∧ k ≤ 8) → A k = []) (k i : Int) : Calls Try.prog 103 #[.pointer (some ⟨rb, 0, none⟩), .int .i64 k, .int .i64 i] w fun e w' => e = .returned (.bool (decide (0 ≤ i ∧ i < (A k).length))) ∧ w = w' := by
  have hs := r_size lo hi w rb q A h hout k
  obtain ⟨n, hn⟩ : ∃ n, (A k).length = n := ⟨_, rfl⟩
  rw [hn] at hs ⊢
  clear hn h hout
  by_cases h0 : 0 ≤ i
  · by_cases h1 : i < n
    · rw [decide_eq_true (show 0 ≤ i ∧ i < (n : Int) from ⟨h0, h1⟩)]
      go_enter Try.func103, Try.ntmps103
      go_wp2_with (go_at_call 15; (with_reducible refine hs.mono ?_); rintro e w1 ⟨rfl, rfl⟩)
      go_ret
      exact ⟨rfl, rfl⟩
    · have h2 : (n : Int) ≤ i := by omega
      rw [decide_eq_false (show ¬ (0 ≤ i ∧ i < (n : Int)) by omega)]
      clear h1
      go_enter Try.func103, Try.ntmps103
      go_wp2_with (go_at_call 15; (with_reducible refine hs.mono ?_); rintro e w1 ⟨rfl, rfl⟩)
      go_ret
      exact ⟨by show Ending.returned (.bool (decide (i < (n : Int)))) = _; rw [decide_eq_false (by omega)], rfl⟩
  · have h2 : i < 0 := by omega
    rw [decide_eq_false (show ¬ (0 ≤ i ∧ i < (n : Int)) by omega)]
    clear h0
    go_enter Try.func103, Try.ntmps103
    go_wp2_with (go_at_call 15; (with_reducible refine hs.mono ?_); rintro e w1 ⟨rfl, rfl⟩)
    go_ret
    exact ⟨rfl, rfl⟩
end Go.Proofs.Ytcbhpoajpingcaa.CelH
