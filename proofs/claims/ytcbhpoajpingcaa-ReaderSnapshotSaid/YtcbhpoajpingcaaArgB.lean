/-
  An argument that came in: a row of bools.
-/
import Derived.Test.YtcbhpoajpingcaaLayO
import Derived.Deep.Slices
namespace Go.Proofs.Ytcbhpoajpingcaa.ArgB
open Go.ChangeShapes Go.WideShapes Go.ChangeAt Go.RowKit
open PlainT BlkW LawFrame
set_option linter.unusedVariables false
set_option maxRecDepth 100000

/-- A row of bools that came in as an argument. -/
def Bools (w : World) (A : Option Addr) (n : Nat) : Prop := ∀ i, i < n → ∃ (b off : Nat) (z : Bool), A = some ⟨b, off, none⟩ ∧ b < w.heap.size ∧ w.cell? ⟨b, off + i, none⟩ = some (.bool z)
section
variable {H : Type} {enc : TypeId × Value → H} {W : World} {base : Nat} {held : Bool}
theorem open_bl {b0 : Nat} {v : Value} {d : DataW H} {ps : List MemPlace} (hval : Value.okWide Try.prog W .any b0 97 v) (hd : DataW.Trod enc Try.prog W base (fun _ => true) held 97 v d ps) :
    ∃ (A : Option Addr) (k c : Nat), v = .slice A k c ∧ k ≤ c ∧ c ≤ maxLen ∧ Bools W A k := by
  obtain ⟨A, n, c, rfl⟩ := okWide_slice Try.underlying97 hval
  obtain ⟨fuel, hf⟩ := hd
  have hc : Try.prog.cellsOf 4 = 1 := by kernel_rfl
  rcases Go.Deep.open_slice1 Try.underlying97 hc hf with ⟨hcs, _⟩ | ⟨a, len, cap, m, n', V, D, Pl, hcs, hb, hl, hm, hmm, hx, hi⟩
  · simp [Value.cells] at hcs
    obtain ⟨rfl, rfl, rfl⟩ := hcs
    exact ⟨none, 0, 0, rfl, Nat.le_refl _, Nat.zero_le _, fun i h => absurd h (by omega)⟩
  · simp [Value.cells] at hcs
    obtain ⟨rfl, rfl, rfl⟩ := hcs
    simp only [if_true] at hmm
    have hmm' := hmm.symm
    subst hmm'
    refine ⟨some a, n, c, rfl, hl, hm, fun i hlt => ?_⟩
    obtain ⟨h1, h2⟩ := hi i (by omega)
    obtain ⟨z, hz, _⟩ := DataW.trod_bool Try.underlying4 h2
    have hz' : V i = .bool z := by simpa using hz
    rw [hz'] at h1
    have hsp : a.spot = none := by
      have := World.cell?_spot (hi 0 (by omega)).1
      simpa [Addr.add] using this
    obtain ⟨b, off, spot⟩ := a
    simp only at hsp
    subst hsp
    rw [Go.WideShapes.add_plain] at h1
    exact ⟨b, off, z, rfl, World.block_lt_of_cell? _ _ h1, h1⟩
end
theorem Bools.below {w w' : World} {A : Option Addr} {n : Nat} (h : Bools w A n) (k : Below w.heap.size w w') : Bools w' A n := fun i hi => by
  obtain ⟨b, off, z, h1, h2, h3⟩ := h i hi
  exact ⟨b, off, z, h1, Nat.lt_of_lt_of_le h2 k.size, (k.cell (p := ⟨b, off + i, none⟩) h2).trans h3⟩
theorem Bools.at_ {w0 w : World} {A : Option Addr} {n : Nat} (h : Bools w0 A n) (ho : Below w0.heap.size w0 w) {i : Nat} (hi : i < n) : ∃ (b off : Nat) (z : Bool), A = some ⟨b, off, none⟩ ∧ w.cell? ⟨b, off + i, none⟩ = some (.bool z) := by
  obtain ⟨b, off, z, h1, _, h3⟩ := h.below ho i hi
  exact ⟨b, off, z, h1, h3⟩
end Go.Proofs.Ytcbhpoajpingcaa.ArgB
