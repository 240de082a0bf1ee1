/-
  The package-level variables that layer 3 reads (the tables of isa and alu, strconv's table and its two errors): what the row's condition says of them, and that they stay.
-/
import Derived.Test.YthnhmclnfgkppaaDoorRows
import Derived.Test.YthnhmclnfgkppaaDoorPlainT
import Derived.WalkKit
import Derived.ProofKit
import Derived.OpenShut
import Derived.WalkLawsBesides
namespace Go.Proofs.YthnhmclnfgkppaaDoor.IsaE
open Go.ChangeShapes Go.WideShapes Go.ChangeAt Go.RowKit
open PlainT
set_option linter.unusedVariables false

/-! ### The operations. -/
def opNames : List (List UInt8) := [[110, 111, 112], [99, 111, 110, 115, 116], [109, 111, 118, 101], [], [106, 117, 109, 112], [122, 101, 114, 111], [110, 111, 110, 122, 101, 114, 111], [98, 101, 103, 105, 110], [99, 111, 109, 109, 105, 116], [97, 98, 111, 114, 116], [116, 114, 101, 97, 100], [116, 119, 114, 105, 116, 101], [112, 114, 101, 97, 100], [112, 119, 114, 105, 116, 101], [97, 108, 108, 111, 99], [102, 114, 101, 101], [102, 101, 110, 99, 101], [111, 117, 116, 99, 111, 109, 101]]
def opLetters : List (List UInt8) := [[], [97, 110], [97, 98], [97, 98, 99], [110], [97, 110], [97, 110], [110], [], [], [97, 98, 110], [97, 98, 110], [97, 98, 110], [97, 98, 110], [97, 110], [97], [], [97]]
def opUses : List (List UInt8) := [[], [], [98], [98, 99], [], [97], [97], [], [], [], [98], [97, 98], [98], [97, 98], [], [97], [], []]
def opSets : List Bool := [false, true, true, true, false, false, false, false, false, false, true, false, true, false, true, false, false, true]
def opPlaces : List Int := [0, 0, 0, 0, 0, 0, 0, 2, 1, 1, 1, 1, 2, 2, 1, 1, 2, 2]
def rows : List (List Lit) := (List.range 18).map fun k => [.string (opNames.getD k []), .string (opLetters.getD k []), .string (opUses.getD k []), .bool (opSets.getD k false), .int .i64 (opPlaces.getD k 0)]
def shapeCells : List Value := rows.flatMap fun r => r.map Lit.value
theorem shapes_datum : (Rows.laid_strongtx_isa_shapes : DataW Unit) = .agg (rows.map fun r => .agg (r.map .lit)) := by kernel_rfl
theorem rows_len : ∀ r ∈ rows, r.length = 5 := by
  intro r hr
  obtain ⟨k, _, rfl⟩ := List.mem_map.1 hr
  rfl

/-! ### The functions' names. -/
def fnNames : List (List UInt8) := [[97, 100, 100], [115, 117, 98], [109, 117, 108], [97, 110, 100], [111, 114], [120, 111, 114], [115, 104, 108], [115, 104, 114], [101, 113], [110, 101], [108, 116], [108, 116, 117], [102, 97, 100, 100], [102, 115, 117, 98], [102, 109, 117, 108], [102, 100, 105, 118], [102, 109, 105, 110], [102, 109, 97, 120], [102, 101, 113], [102, 108, 116], [102, 114, 111, 109, 105, 110, 116], [116, 111, 105, 110, 116]]
def strs (ls : List (List UInt8)) : List Value := ls.map fun l => .string ⟨l.toArray⟩

def pow10 : List Int := [1, 10, 100, 1000, 10000, 100000, 1000000, 10000000, 100000000, 1000000000, 10000000000, 100000000000, 1000000000000, 10000000000000, 100000000000000, 1000000000000000, 10000000000000000, 100000000000000000, 1000000000000000000, 10000000000000000000]

/-- The variables hold what the program's text lays in them. -/
structure Env (w : World) : Prop where
  shapes : Var w 0 shapeCells.toArray
theorem Env.old {w w' : World} (h : Env w) (k : Old w w') : Env w' :=
  ⟨h.shapes.old k⟩
theorem Env.below {w w' : World} (h : Env w) (k : Below w.heap.size w w') : Env w' := h.old (.of_below k)
theorem Env.alloc {w : World} (h : Env w) (o : Obj) : Env (w.alloc o) := h.old ((Old.refl w).alloc o)
theorem Env.drewN {w : World} (h : Env w) (n : Nat) : Env (w.drewN n) := h.old ((Old.refl w).drewN n)

abbrev laidList : List (String × DataW Unit) := [("strongtx/isa.shapes", Rows.laid_strongtx_isa_shapes)]

theorem env_of_laid {W : World} (h : laidMetH Tryd.prog laidList W) : Env W := by
  rw [MakeChecks.laidMetH_plain _ _ _ (by kernel_rfl)] at h
  refine ⟨?_⟩
  · obtain ⟨arr, fuel, p, hv, hd⟩ := laid_one (n := "strongtx/isa.shapes") (d := Rows.laid_strongtx_isa_shapes) (g := 0) (t := 98) h (by kernel_rfl) (by kernel_rfl) (by kernel_rfl)
    rw [shapes_datum] at hd
    have := rows_cells (n := 18) (m := 5) Tryd.underlying98 Tryd.underlying97 (by kernel_rfl) (by kernel_rfl) (by kernel_rfl) (by
      intro j hj
      have : j = 0 ∨ j = 1 ∨ j = 2 ∨ j = 3 ∨ j = 4 := by omega
      rcases this with rfl | rfl | rfl | rfl | rfl <;> exact ⟨_, rfl, rfl⟩) rows_len hd
    have e : arr = shapeCells.toArray := by rw [← Array.toArray_toList (xs := arr), this]; rfl
    exact e ▸ hv
end Go.Proofs.YthnhmclnfgkppaaDoor.IsaE
