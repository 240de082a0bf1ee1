/-
  Contracts of package layout and of its reference: Find, Orec.
-/
import Derived.Test.YtcbhpoajpingcaaLayF
import Derived.Deep.RegionHeld3
namespace Go.Proofs.Ytcbhpoajpingcaa.LayG
open Go.ChangeShapes Go.WideShapes Go.ChangeAt Go.RowKit
open PlainT BlkW LayS LayA LayB LayC LayD LayE LayF
set_option linter.unusedVariables false
set_option maxHeartbeats 1000000

theorem find_step {q : Cfg} {x : Int} {n k : Nat} {v : Int} (h : findGo q x (n - k) k = v) (hk : k < n) : (if fstV q k = x then (k : Int) else findGo q x (n - (k + 1)) ((k : Int) + 1)) = v := by
  rw [show n - k = (n - (k + 1)) + 1 by omega] at h
  unfold findGo at h
  exact h
theorem find_end {q : Cfg} {x : Int} {n k : Nat} {v : Int} (h : findGo q x (n - k) k = v) (hk : n ≤ k) : v = -1 := by
  rw [show n - k = 0 by omega] at h
  unfold findGo at h
  exact h.symm
theorem ret_int {a b : Int} (h : a = b) : Ending.returned (.int .i64 a) = .returned (.int .i64 b) := by rw [h]
end Go.Proofs.Ytcbhpoajpingcaa.LayG
