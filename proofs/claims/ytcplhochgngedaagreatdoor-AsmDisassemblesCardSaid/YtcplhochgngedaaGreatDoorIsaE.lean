/-
  The package-level variables that layer 3 reads (the tables of isa and alu, strconv's table and its two errors): what the row's condition says of them, and that they stay.
-/
import Derived.Test.YtcplhochgngedaaGreatDoorRows
import Derived.Test.YtcplhochgngedaaGreatDoorPlainT
import Derived.WalkKit
import Derived.ProofKit
import Derived.OpenShut
import Derived.WalkLawsBesides
namespace Go.Proofs.YtcplhochgngedaaGreatDoor.IsaE
open Go.ChangeShapes Go.WideShapes Go.ChangeAt Go.RowKit
open PlainT
set_option linter.unusedVariables false

/-! ### The operations. -/
def opNames : List (List UInt8) := [[110, 111, 112], [99, 111, 110, 115, 116], [109, 111, 118, 101], [], [106, 117, 109, 112], [122, 101, 114, 111], [110, 111, 110, 122, 101, 114, 111], [98, 101, 103, 105, 110], [99, 111, 109, 109, 105, 116], [97, 98, 111, 114, 116], [116, 114, 101, 97, 100], [116, 119, 114, 105, 116, 101], [112, 114, 101, 97, 100], [112, 119, 114, 105, 116, 101], [97, 108, 108, 111, 99], [102, 114, 101, 101], [102, 101, 110, 99, 101], [111, 117, 116, 99, 111, 109, 101]]
def opLetters : List (List UInt8) := [[], [97, 110], [97, 98], [97, 98, 99], [110], [97, 110], [97, 110], [110], [], [], [97, 98, 110], [97, 98, 110], [97, 98, 110], [97, 98, 110], [97, 110], [97], [], [97]]
def opUses : List (List UInt8) := [[], [], [98], [98, 99], [], [97], [97], [], [], [], [98], [97, 98], [98], [97, 98], [], [97], [], []]
def opSets : List Bool := [false, true, true, true, false, false, false, false, false, false, true, false, true, false, true, false, false, true]
def opPlaces : List Int := [0, 0, 0, 0, 0, 0, 0, 2, 1, 1, 1, 1, 2, 2, 1, 1, 2, 2]
def rows : List (List Lit) := (List.range 18).map fun k => [.string (opNames.getD k []), .string (opLetters.getD k []), .string (opUses.getD k []), .bool (opSets.getD k false), .int .i64 (opPlaces.getD k 0)]
def shapeCells : List Value := rows.flatMap fun r => r.map Lit.value
theorem shapes_datum : (Rows.laid_strongtx_isa_shapes : DataW Unit) = .agg (rows.map fun r => .agg (r.map .lit)) := by kernel_rfl
theorem rows_len : ∀ r ∈ rows, r.length = 5 := by
  intro r hr
  obtain ⟨k, _, rfl⟩ := List.mem_map.1 hr
  rfl

/-! ### The functions' names. -/
def fnNames : List (List UInt8) := [[97, 100, 100], [115, 117, 98], [109, 117, 108], [97, 110, 100], [111, 114], [120, 111, 114], [115, 104, 108], [115, 104, 114], [101, 113], [110, 101], [108, 116], [108, 116, 117], [102, 97, 100, 100], [102, 115, 117, 98], [102, 109, 117, 108], [102, 100, 105, 118], [102, 109, 105, 110], [102, 109, 97, 120], [102, 101, 113], [102, 108, 116], [102, 114, 111, 109, 105, 110, 116], [116, 111, 105, 110, 116]]
def strs (ls : List (List UInt8)) : List Value := ls.map fun l => .string ⟨l.toArray⟩

def pow10 : List Int := [1, 10, 100, 1000, 10000, 100000, 1000000, 10000000, 100000000, 1000000000, 10000000000, 100000000000, 1000000000000, 10000000000000, 100000000000000, 1000000000000000, 10000000000000000, 100000000000000000, 1000000000000000000, 10000000000000000000]

/-- The variables hold what the program's text lays in them. -/
structure Env (w : World) : Prop where
  shapes : Var w 0 shapeCells.toArray
  names : Var w 2 (strs fnNames).toArray
  pow : Var w 3 (pow10.map fun z => Value.int .u64 z).toArray
  syn : ∃ t a, Var w 8 #[.iface t (.pointer (some a))]
  rng : ∃ t a, Var w 9 #[.iface t (.pointer (some a))]
theorem Env.old {w w' : World} (h : Env w) (k : Old w w') : Env w' :=
  ⟨h.shapes.old k, h.names.old k, h.pow.old k, (by obtain ⟨t, a, x⟩ := h.syn; exact ⟨t, a, x.old k⟩), (by obtain ⟨t, a, x⟩ := h.rng; exact ⟨t, a, x.old k⟩)⟩
theorem Env.below {w w' : World} (h : Env w) (k : Below w.heap.size w w') : Env w' := h.old (.of_below k)
theorem Env.alloc {w : World} (h : Env w) (o : Obj) : Env (w.alloc o) := h.old ((Old.refl w).alloc o)
theorem Env.drewN {w : World} (h : Env w) (n : Nat) : Env (w.drewN n) := h.old ((Old.refl w).drewN n)

abbrev laidList : List (String × DataW Unit) := [("math/bits.deBruijn32tab", Rows.laid_math_bits_deBruijn32tab), ("math/bits.deBruijn64tab", Rows.laid_math_bits_deBruijn64tab), ("internal/strconv.uint64pow10", Rows.laid_internal_strconv_uint64pow10), ("unicode/utf8.acceptRanges", Rows.laid_unicode_utf8_acceptRanges), ("strconv.ErrRange", Rows.laid_strconv_ErrRange), ("strconv.ErrSyntax", Rows.laid_strconv_ErrSyntax), ("strongtx/alu.names", Rows.laid_strongtx_alu_names), ("strongtx/isa.shapes", Rows.laid_strongtx_isa_shapes), ("unicode/utf8.first", Rows.laid_unicode_utf8_first)]

theorem strs_cells {P : Program} {w : World} {fuel : Nat} {t e : TypeId} {n : Nat} {cs : List Value} {ls : List (List UInt8)} {p : List MemPlace}
    (ht : P.underlying t = some (.array n e)) (hce : P.cellsOf e = 1) (hct : P.cellsOf t = n)
    (h : DataW.trod (fun _ => ()) P w 0 (fun _ => true) false fuel t cs = some (.agg (ls.map fun l => .lit (.string l)), p)) : cs = strs ls := by
  obtain ⟨xs, q, rfl, hx, hl, hxl, hg⟩ := DataW.trod_array ht h
  simp only [Prod.mk.injEq, DataW.agg.injEq] at hx
  have hll : ls.length = n := by
    have := congrArg List.length hx.1
    simp at this
    omega
  apply List.ext_getElem?
  intro i
  by_cases hi : i < n
  · have hgi := hg i hi
    have hxi : i < xs.length := by omega
    have hli : i < ls.length := by omega
    rw [List.getElem?_eq_getElem hxi, hce, Nat.mul_one] at hgi
    have e1 : (xs[i]).1 = .lit (.string ls[i]) := by
      have := congrArg (fun l => l[i]?) hx.1
      simp only [List.getElem?_map, List.getElem?_eq_getElem hxi, List.getElem?_eq_getElem hli, Option.map_some, Option.some.injEq] at this
      exact this.symm
    have e3 : xs[i] = (.lit (.string ls[i]), (xs[i]).2) := by rw [← e1]
    rw [e3] at hgi
    have e4 := congrArg (fun l => l[0]?) (trod_lit hgi)
    simp only [List.getElem?_cons_zero, List.getElem?_take, List.getElem?_drop] at e4
    rw [if_pos (by omega)] at e4
    unfold strs
    rw [List.getElem?_map, List.getElem?_eq_getElem hli]
    rw [Nat.add_zero] at e4
    exact e4
  · rw [List.getElem?_eq_none (by omega), List.getElem?_eq_none (by unfold strs; simp; omega)]

theorem star : "*" ++ "errors.errorString" = "*errors.errorString" := by decide
theorem row_err (u : TypeId) (h : Tryz.prog.typeName? 3 u = some "*errors.errorString") : u = 186 :=
  typeName_ptr_named (nm := "errors.errorString") (by rw [star]; kernel_rfl) (by kernel_rfl) (by decide) u (by rw [star]; exact h)
theorem err_of {n : String} {text : List UInt8} {W : World} {g : Nat} (hg : Tryz.prog.globalNamed n = some g) (ht : (Tryz.prog.globals[g]?).map (·.type) = some 69)
    (h : laidMet Tryz.prog [(n, .iface "*errors.errorString" (.ptr (.agg [.lit (.string text)])))] W) : ∃ t a, Var W g #[.iface t (.pointer (some a))] := by
  obtain ⟨a0, s0, hv0, -, -, -⟩ := laid_sentinel h hg ht Tryz.underlying69 row_err Tryz.underlying186 Tryz.underlying188 rfl rfl Tryz.underlying9 (by kernel_rfl) (by kernel_rfl)
  exact ⟨_, _, Var.of_var? hg hv0⟩
theorem env_of_laid {W : World} (h : laidMetH Tryz.prog laidList W) : Env W := by
  rw [MakeChecks.laidMetH_plain _ _ _ (by kernel_rfl)] at h
  refine ⟨?_, ?_, ?_, ?_, ?_⟩
  · obtain ⟨arr, fuel, p, hv, hd⟩ := laid_one (n := "strongtx/isa.shapes") (d := Rows.laid_strongtx_isa_shapes) (g := 0) (t := 109) h (by kernel_rfl) (by kernel_rfl) (by kernel_rfl)
    rw [shapes_datum] at hd
    have := rows_cells (n := 18) (m := 5) Tryz.underlying109 Tryz.underlying108 (by kernel_rfl) (by kernel_rfl) (by kernel_rfl) (by
      intro j hj
      have : j = 0 ∨ j = 1 ∨ j = 2 ∨ j = 3 ∨ j = 4 := by omega
      rcases this with rfl | rfl | rfl | rfl | rfl <;> exact ⟨_, rfl, rfl⟩) rows_len hd
    have e : arr = shapeCells.toArray := by rw [← Array.toArray_toList (xs := arr), this]; rfl
    exact e ▸ hv
  · obtain ⟨arr, fuel, p, hv, hd⟩ := laid_one (n := "strongtx/alu.names") (d := Rows.laid_strongtx_alu_names) (g := 2) (t := 160) h (by kernel_rfl) (by kernel_rfl) (by kernel_rfl)
    have := strs_cells (n := 22) (ls := fnNames) Tryz.underlying160 (e := 9) (by kernel_rfl) (by kernel_rfl) hd
    have e : arr = (strs fnNames).toArray := by rw [← Array.toArray_toList (xs := arr), this]
    exact e ▸ hv
  · obtain ⟨arr, fuel, p, hv, hd⟩ := laid_one (n := "internal/strconv.uint64pow10") (d := Rows.laid_internal_strconv_uint64pow10) (g := 3) (t := 162) h (by kernel_rfl) (by kernel_rfl) (by kernel_rfl)
    have := Lib.cells_of_tab (k := .u64) (n := 20) (zs := pow10) Tryz.underlying162 Tryz.underlying101 (by kernel_rfl) (by kernel_rfl) hd
    have e : arr = (pow10.map fun z => Value.int .u64 z).toArray := by rw [← Array.toArray_toList (xs := arr), this]
    exact e ▸ hv
  · exact err_of (n := "strconv.ErrSyntax") (text := _) (by kernel_rfl) (by kernel_rfl) (laidMet.filter (fun x => x.1 == "strconv.ErrSyntax") h)
  · exact err_of (n := "strconv.ErrRange") (text := _) (by kernel_rfl) (by kernel_rfl) (laidMet.filter (fun x => x.1 == "strconv.ErrRange") h)
end Go.Proofs.YtcplhochgngedaaGreatDoor.IsaE
