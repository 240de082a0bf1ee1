/-
  Made programs (plain mathematics).
-/
import Derived.Test.YtcplhochgngedaaGreatDoorPrgI
namespace Go.Proofs.YtcplhochgngedaaGreatDoor.PrgG
open Go.ChangeShapes Go.WideShapes Go.ChangeAt Go.RowKit
open PlainT IsaE IsaS BlkW IsaA IsaB IsaF RefA PrgS PrgI
set_option linter.unusedVariables false

/-- An operation that may stand where a transaction is open, or none is. -/
def Fits (op : Int) (o : Bool) : Prop := (opPlaces.getD op.toNat 0 = 1 → o = true) ∧ (opPlaces.getD op.toNat 0 = 2 → o = false)
def nxt (op : Int) (o : Bool) : Bool := if op = 7 then true else if op = 8 then false else o
inductive Gen : List I5 → Bool → Prop
  | nil : Gen [] false
  | snoc {ps : List I5} {o : Bool} {x : I5} {op : Nat} : Gen ps o → op < 18 → Made op x → Fits op o → Gen (ps ++ [x]) (nxt op o)
def cellsI (ps : List I5) : List Value := ps.flatMap fun x => [.int .i64 x.op, .int .i64 x.a, .int .i64 x.b, .int .i64 x.c, .int .i64 x.i]
theorem cellsI_len (ps : List I5) : (cellsI ps).length = ps.length * 5 := by
  induction ps with
  | nil => rfl
  | cons a r ih =>
    unfold cellsI at ih ⊢
    simp only [List.flatMap_cons, List.length_append, List.length_cons, List.length_nil]
    omega
theorem Gen.ok {ps : List I5} {o : Bool} (h : Gen ps o) : ∀ x ∈ ps, OkI x ∧ chkI x = 0 ∧ ((x.op = 4 ∨ x.op = 5 ∨ x.op = 6) → x.i = 0) := by
  induction h with
  | nil => simp
  | snoc h h1 h2 h3 ih =>
    intro x hx
    rcases List.mem_append.1 hx with hx | hx
    · exact ih x hx
    · rw [List.mem_singleton.1 hx]
      exact ⟨h2.2.1, h2.2.2.1, fun h => h2.2.2.2 (by rw [h2.1] at h; exact h)⟩
end Go.Proofs.YtcplhochgngedaaGreatDoor.PrgG
