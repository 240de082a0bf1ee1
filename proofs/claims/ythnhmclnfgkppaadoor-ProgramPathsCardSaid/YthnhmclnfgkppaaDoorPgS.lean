/-
  Transactions of a program in their order (plain mathematics).
-/
import Derived.Test.YthnhmclnfgkppaaDoorPrgS
namespace Go.Proofs.YthnhmclnfgkppaaDoor.PgS
open Go.RowKit
open PrgS
set_option linter.unusedVariables false

/-- The transactions that the rest of a program still shows: op tells whether one is open, b where it began. -/
def txGo (n : Int) : List I5 → Int → Bool → Int → List (Int × Int)
  | [], _, op, b => if op then [(b, n)] else []
  | x :: r, k, op, b => if x.op = 7 ∧ op = false then txGo n r (k + 1) true k else if x.op = 8 ∧ op = true then (b, k) :: txGo n r (k + 1) false b else txGo n r (k + 1) op b
def txV (ps : List I5) : List (Int × Int) := txGo ps.length ps 0 false 0
/-- Does position k lie in the transaction t of a program of length n? -/
def inTx (n k : Int) (t : Int × Int) : Bool := decide (t.1 < k) && decide (k ≤ t.2) && decide (k < n)
def aroundV (ps : List I5) (k : Int) : Option (Int × Int) := (txV ps).find? (inTx ps.length k)
theorem txGo_begin {n : Int} {x : I5} {r : List I5} {k b : Int} (h : x.op = 7) : txGo n (x :: r) k false b = txGo n r (k + 1) true k := by
  rw [txGo, if_pos ⟨h, rfl⟩]
theorem txGo_commit {n : Int} {x : I5} {r : List I5} {k b : Int} (h : x.op = 8) : txGo n (x :: r) k true b = (b, k) :: txGo n r (k + 1) false b := by
  rw [txGo, if_neg (by simp), if_pos ⟨h, rfl⟩]
theorem txGo_other {n : Int} {x : I5} {r : List I5} {k b : Int} {op : Bool} (h1 : ¬ (x.op = 7 ∧ op = false)) (h2 : ¬ (x.op = 8 ∧ op = true)) : txGo n (x :: r) k op b = txGo n r (k + 1) op b := by
  rw [txGo, if_neg h1, if_neg h2]
theorem find_at {α : Type} {p : α → Bool} {xs pre : List α} {x : α} (h : pre ++ [x] <+: xs) (h1 : p x = true) (h2 : ∀ y ∈ pre, p y = false) : xs.find? p = some x := by
  obtain ⟨t, rfl⟩ := h
  rw [List.append_assoc, List.find?_append, List.find?_eq_none.2 (fun y hy => by rw [h2 y hy]; simp)]
  simp [h1]
theorem find_no {α : Type} {p : α → Bool} {xs : List α} (h2 : ∀ y ∈ xs, p y = false) : xs.find? p = none :=
  List.find?_eq_none.2 (fun y hy => by rw [h2 y hy]; simp)
end Go.Proofs.YthnhmclnfgkppaaDoor.PgS
