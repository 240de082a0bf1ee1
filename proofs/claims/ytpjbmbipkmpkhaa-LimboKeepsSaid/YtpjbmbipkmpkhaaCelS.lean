/-
  Texts on no function: maps with whole numbers as keys, rows of words of 64 bits, the eight rows of cells of a machine as memory holds them.
-/
import Derived.Test.YtpjbmbipkmpkhaaRows
import Derived.Test.YtpjbmbipkmpkhaaBlk
import Derived.ProofKit
import Derived.OpenShut
import Derived.WalkLawsBesides
import Derived.MapKept
import Derived.Laws.MakeOwn
import Derived.Laws.OwnMore
import Derived.Lib.Hide
namespace Go.Proofs.Ytpjbmbipkmpkhaa.CelS
open Go.RowKit Go.MapKept
open PlainT BlkW
set_option linter.unusedVariables false

abbrev TI : TypeId := 3
abbrev TU : TypeId := 29
abbrev TR : TypeId := 37
abbrev TMap : TypeId := 132
abbrev TMem : TypeId := 134

/-! ### Maps. -/
/-- Block b is a map whose key k holds what C k says. -/
def MapI (w : World) (b : Nat) (C : Int → Option Value) : Prop :=
  ∃ es clock, w.heap[b]? = some (.map es clock) ∧ ∀ k : Int, ∃ r, Instr.findNow (.int .i64) (.int .i64 k) es.toList 0 = some r ∧ r.map (·.2) = C k
section
variable {w w' : World} {b : Nat} {C : Int → Option Value}
theorem MapI.of_block (h : MapI w b C) (hb : w'.heap[b]? = w.heap[b]?) : MapI w' b C := by
  obtain ⟨es, clock, h1, h2⟩ := h
  exact ⟨es, clock, hb.trans h1, h2⟩
theorem MapI.lt (h : MapI w b C) : b < w.heap.size := by
  obtain ⟨es, clock, h1, h2⟩ := h
  exact lt_of_some h1
theorem MapI.congr {C' : Int → Option Value} (h : MapI w b C) (e : ∀ k, C k = C' k) : MapI w b C' := by
  obtain ⟨es, clock, h1, h2⟩ := h
  exact ⟨es, clock, h1, fun k => by rw [← e k]; exact h2 k⟩
theorem MapI.new (w : World) : MapI (w.alloc (.map #[] 0)) w.heap.size (fun _ => none) := ⟨#[], 0, heap_alloc_new w _, fun k => ⟨none, rfl, rfl⟩⟩
theorem MapI.look (h : MapI w b C) (k : Int) : (Instr.lookup TMap (.map (some b)) (.int .i64 k) false).run Try.prog w = .ok ((C k).getD (.slice none 0 0)) w := by
  obtain ⟨es, clock, h1, h2⟩ := h
  obtain ⟨r, hr, hc⟩ := h2 k
  have hck := run_checkKey (P := Try.prog) (w := w) (k := .int .i64 k) Try.underlying3 (show IsKey (.int .i64) (.int .i64 k) from rfl) es.isEmpty 9999
  have hfk := run_findKey (P := Try.prog) (w := w) Try.underlying3 hr
  rw [← hc]
  cases r with
  | none => simp [Instr.lookup, run_underlying Try.underlying132, Go.MapKept.run_getObj_map h1, hck, hfk, Result.andThen, Try.zeroValue37]
  | some p => simp [Instr.lookup, run_underlying Try.underlying132, Go.MapKept.run_getObj_map h1, hck, hfk, Result.andThen]
theorem findNow_push (k : Int) (e : MapEntry) (j : Int) (he : e.key = .int .i64 j) : ∀ (es : List MapEntry) (i : Nat) (r : Option (Nat × Value)), Instr.findNow (.int .i64) (.int .i64 k) es i = some r →
    ∃ r', Instr.findNow (.int .i64) (.int .i64 k) (es ++ [e]) i = some r' ∧ r'.map (·.2) = (match r with | some p => some p.2 | none => if k = j then some e.val else none)
  | [], i, r, h => by
    simp only [Instr.findNow, Option.some.injEq] at h
    subst h
    by_cases hk : k = j
    · subst hk
      exact ⟨some (i, e.val), by simp [Instr.findNow, Instr.sameNow, he], by simp⟩
    · exact ⟨none, by
        have hb : (k == j) = false := by simpa using hk
        simp only [List.nil_append, Instr.findNow, Instr.sameNow, he, if_pos, hb], by simp [hk]⟩
  | x :: es, i, r, h => by
    simp only [Instr.findNow] at h
    simp only [List.cons_append, Instr.findNow]
    split at h
    · injection h with h
      subst h
      exact ⟨_, rfl, rfl⟩
    · exact findNow_push k e j he es (i + 1) r h
    · cases h
theorem MapI.put (h : MapI w b C) (j : Int) (hj : C j = none) (v : Value) :
    ∃ w', (Instr.mapUpdate TMap (.map (some b)) (.int .i64 j) v).run Try.prog w = .ok () w' ∧ MapI w' b (fun k => if k = j then some v else C k) ∧ w'.heap.size = w.heap.size ∧ (∀ g, g ≠ b → w'.heap[g]? = w.heap[g]?) ∧ w'.os = w.os ∧ w'.tape = w.tape ∧ w'.output = w.output := by
  obtain ⟨es, clock, h1, h2⟩ := h
  obtain ⟨r, hr, hc⟩ := h2 j
  have hrn : r = none := by
    rw [hj] at hc
    cases r with
    | none => rfl
    | some p => cases hc
  subst hrn
  clear hc
  have hck := run_checkKey (P := Try.prog) (w := w) (k := .int .i64 j) Try.underlying3 (show IsKey (.int .i64) (.int .i64 j) from rfl) false 9999
  have hfk := run_findKey (P := Try.prog) (w := w) Try.underlying3 hr
  refine ⟨{ w with heap := w.heap.setIfInBounds b (.map (es.push { key := .int .i64 j, val := v, born := clock }) (clock + 1)) }, ?_, ⟨_, _, (heap_set h1).1, fun k => ?_⟩, by simp, (heap_set h1).2, rfl, rfl, rfl⟩
  · simp [Instr.mapUpdate, run_underlying Try.underlying132, Go.MapKept.run_getObj_map h1, hck, hfk, Result.andThen, Go.MapKept.run_setObj_map _ h1]
  · obtain ⟨r, hr, hc⟩ := h2 k
    obtain ⟨r', h3, h4⟩ := findNow_push k { key := .int .i64 j, val := v, born := clock } j rfl es.toList 0 r hr
    refine ⟨r', by simpa using h3, ?_⟩
    rw [h4]
    cases r with
    | none =>
      show (if k = j then some v else none) = if k = j then some v else C k
      by_cases hk : k = j
      · rw [if_pos hk, if_pos hk]
      · rw [if_neg hk, if_neg hk, ← hc]; rfl
    | some p =>
      have hk : k ≠ j := by
        rintro rfl
        exact absurd (hc.trans hj) (by simp)
      show some p.2 = if k = j then some v else C k
      rw [if_neg hk, ← hc]; rfl
end

/-! ### Rows of words. -/
/-- Words as a block's cells. -/
def U (xs : List Int) : Array Value := (xs.map (Value.int .u64)).toArray
theorem U_size (xs : List Int) : (U xs).size = xs.length := by simp [U]
theorem U_get (xs : List Int) (i : Nat) : (U xs)[i]? = (xs[i]?).map (Value.int .u64) := by simp [U]
theorem U_set (xs : List Int) (i : Nat) (v : Int) : (U xs).setIfInBounds i (.int .u64 v) = U (xs.set i v) := by simp [U]
theorem made_zero (n : Nat) : madeCells (Value.int .u64 0).cells n = U (List.replicate n 0) := by
  apply Array.ext
  · simp [size_madeCells, U]
  · intro i h1 h2
    simp [madeCells, U, Value.cells, Nat.mod_one]
/-- Block g is just the words xs. -/
abbrev Row (w : World) (g : Nat) (xs : List Int) : Prop := Mem w g TU (U xs)
theorem Row.cell {w : World} {g : Nat} {xs : List Int} (h : Row w g xs) (i : Nat) (hi : i < xs.length) : w.cell? ⟨g, i, none⟩ = some (.int .u64 (xs.getD i 0)) := by
  rw [Mem.cell h, U_get, List.getD_eq_getElem?_getD, List.getElem?_eq_getElem hi]; rfl
theorem Row.put {w : World} {g : Nat} {xs : List Int} (h : Row w g xs) (i : Nat) (v : Int) : Row (w.setCell ⟨g, i, none⟩ (.int .u64 v)) g (xs.set i v) := by
  have := h.set_ i (.int .u64 v)
  rwa [U_set] at this
set_option maxRecDepth 100000 in
theorem make_row (w : World) (n : Nat) (h : n ≤ 1000000) : (Instr.makeSlice TR (.int .i64 n) (.int .i64 n)).run Try.prog w = .ok (.slice (some ⟨w.heap.size, 0, none⟩) n n) (w.alloc (.cells (U (List.replicate n 0)) TU)) := by
  obtain ⟨i, hi, hz, hs, hb⟩ : ∃ i, Try.prog.info? TU = some i ∧ i.zero = some (.int .u64 0) ∧ i.size = 1 ∧ i.bytes = 8 := ⟨_, rfl, by kernel_rfl, by kernel_rfl, by kernel_rfl⟩
  have := run_make (P := Try.prog) w TR TU i (.int .u64 0) Try.underlying37 hi hz .i64 .i64 n n (by omega) (Int.le_refl _) (by rw [hb]; omega) (by omega)
  rw [this, hs, Nat.mul_one, made_zero]
  simp
end Go.Proofs.Ytpjbmbipkmpkhaa.CelS
