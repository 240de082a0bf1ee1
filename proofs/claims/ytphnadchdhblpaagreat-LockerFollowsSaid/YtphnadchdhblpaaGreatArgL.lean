/-
  An argument that came in: a row of rows of integers.
-/
import Derived.Test.YtphnadchdhblpaaGreatLayO
import Derived.Test.YtphnadchdhblpaaGreatFrame
import Derived.Deep.Slices
import Derived.Laws.Tables
import Derived.Laws.Rows
namespace Go.Proofs.YtphnadchdhblpaaGreat.ArgL
open Go.ChangeShapes Go.WideShapes Go.ChangeAt Go.RowKit
open PlainT BlkW LawFrame
set_option linter.unusedVariables false
set_option maxRecDepth 100000

/-- A row of rows of integers that came in as an argument. -/
def LL (w : World) (A : Option Addr) (n : Nat) : Prop := ∀ i, i < n → ∃ b off Ai ni ci zi, A = some ⟨b, off, none⟩ ∧ b < w.heap.size ∧ w.cell? ⟨b, off + i, none⟩ = some (.slice Ai ni ci) ∧ ni ≤ ci ∧ ci ≤ maxLen ∧ Ints .i64 w Ai ni zi
section
variable {H : Type} {enc : TypeId × Value → H} {W : World} {base : Nat} {held : Bool}
theorem open_irow {k : IntKind} {t e : TypeId} {n : Nat} {v : Value} {x : DataW H × List MemPlace} (ht : Tryz.prog.underlying t = some (.slice e)) (he : Tryz.prog.underlying e = some (.int k)) (hc : Tryz.prog.cellsOf e = 1) (h : DataW.trod enc Tryz.prog W base (fun _ => true) held n t [v] = some x) :
    ∃ A m c z, v = .slice A m c ∧ m ≤ c ∧ c ≤ maxLen ∧ Ints k W A m z := by
  rcases open_ints ht he hc h with ⟨hcs, _⟩ | ⟨a, len, cap, zs, hcs, _, hl, hm, hz, _, hcell, hw⟩
  · simp at hcs
    exact ⟨none, 0, 0, [], hcs, Nat.le_refl _, Nat.zero_le _, rfl, by simp, fun h => absurd h (by omega)⟩
  · simp at hcs
    simp only [if_true] at hz
    refine ⟨some a, len, cap, zs.take len, hcs, hl, hm, by rw [List.length_take]; omega, fun z hz' => hw z (List.mem_of_mem_take hz'), fun hn => ?_⟩
    obtain ⟨b, off, rfl, hc'⟩ := ints_at hcell (by omega)
    refine ⟨b, off, rfl, World.block_lt_of_cell? _ _ (hc' 0 (by omega)), fun i hi => ?_⟩
    rw [hc' i (by omega)]
    congr 2
    simp [hi]
theorem open_ll {b0 : Nat} {v : Value} {d : DataW H} {ps : List MemPlace} (hval : Value.okWide Tryz.prog W .any b0 22 v) (hd : DataW.Trod enc Tryz.prog W base (fun _ => true) held 22 v d ps) :
    ∃ (A : Option Addr) (k c : Nat), v = .slice A k c ∧ k ≤ c ∧ c ≤ maxLen ∧ LL W A k := by
  obtain ⟨A, n, c, rfl⟩ := okWide_slice Tryz.underlying22 hval
  obtain ⟨fuel, hf⟩ := hd
  have hc : Tryz.prog.cellsOf 23 = 1 := by kernel_rfl
  have hci : Tryz.prog.cellsOf 3 = 1 := by kernel_rfl
  rcases Go.Deep.open_slice1 Tryz.underlying22 hc hf with ⟨hcs, _⟩ | ⟨a, len, cap, m, n', V, D, Pl, hcs, hb, hl, hm, hmm, hx, hi⟩
  · simp [Value.cells] at hcs
    obtain ⟨rfl, rfl, rfl⟩ := hcs
    exact ⟨none, 0, 0, rfl, Nat.le_refl _, Nat.zero_le _, fun i h => absurd h (by omega)⟩
  · simp [Value.cells] at hcs
    obtain ⟨rfl, rfl, rfl⟩ := hcs
    simp only [if_true] at hmm
    have hmm' := hmm.symm
    subst hmm'
    refine ⟨some a, n, c, rfl, hl, hm, fun i hlt => ?_⟩
    obtain ⟨h1, h2⟩ := hi i (by omega)
    obtain ⟨Ai, ni, ci, zi, hv, h3, h4, h5⟩ := open_irow Tryz.underlying23 Tryz.underlying3 hci h2
    rw [hv] at h1
    have hsp : a.spot = none := by
      have := World.cell?_spot (hi 0 (by omega)).1
      simpa [Addr.add] using this
    obtain ⟨b, off, spot⟩ := a
    simp only at hsp
    subst hsp
    rw [Go.WideShapes.add_plain] at h1
    exact ⟨b, off, Ai, ni, ci, zi, rfl, World.block_lt_of_cell? _ _ h1, h1, h3, h4, h5⟩
end
end Go.Proofs.YtphnadchdhblpaaGreat.ArgL
