/-
  The integers' range.
-/
import Derived.Test.YthnhmclnfgkppaaDoorIsaB
namespace Go.Proofs.YthnhmclnfgkppaaDoor.IsaF
open Go.ChangeShapes Go.WideShapes Go.ChangeAt Go.RowKit
open PlainT IsaE IsaS BlkW IsaA IsaB
theorem boxed_cells {w : World} {g : Nat} {t : TypeId} {op a b c i : Int} (h : Mem w g t (boxed op a b c i)) : w.cell? ⟨g, 0, none⟩ = some (.int .i64 op) ∧ w.cell? ⟨g, 1, none⟩ = some (.int .i64 a) ∧ w.cell? ⟨g, 2, none⟩ = some (.int .i64 b) ∧ w.cell? ⟨g, 3, none⟩ = some (.int .i64 c) ∧ w.cell? ⟨g, 4, none⟩ = some (.int .i64 i) :=
  ⟨h.cell 0, h.cell 1, h.cell 2, h.cell 3, h.cell 4⟩
def InInt (x : Int) : Prop := -9223372036854775808 ≤ x ∧ x ≤ 9223372036854775807
end Go.Proofs.YthnhmclnfgkppaaDoor.IsaF
