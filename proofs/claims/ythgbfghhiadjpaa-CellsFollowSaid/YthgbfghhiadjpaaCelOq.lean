/-
  An argument that came in: a row of operations on cells.
-/
import Derived.Test.YthgbfghhiadjpaaCelOp
import Derived.Deep.Slices
namespace Go.Proofs.Ythgbfghhiadjpaa.CelOq
open Go.ChangeShapes Go.WideShapes Go.ChangeAt Go.RowKit
open PlainT BlkW LawFrame LayS LayA LayO CelOp
set_option linter.unusedVariables false
set_option maxRecDepth 100000
set_option maxHeartbeats 1000000

/-- A row of n operations. -/
def RowO (w : World) (A : Option Addr) (n : Nat) : Prop := 0 < n → ∃ b off : Nat, A = some ⟨b, off, none⟩ ∧ b < w.heap.size ∧ ∀ i, i < n → ∃ k c x o v : Int, w.cell? ⟨b, off + i * 5, none⟩ = some (.int .i64 k) ∧ w.cell? ⟨b, off + i * 5 + 1, none⟩ = some (.int .i64 c) ∧ w.cell? ⟨b, off + i * 5 + 2, none⟩ = some (.int .i64 x) ∧ w.cell? ⟨b, off + i * 5 + 3, none⟩ = some (.int .u64 o) ∧ w.cell? ⟨b, off + i * 5 + 4, none⟩ = some (.int .u64 v) ∧ InU o
theorem RowO.at_ {w0 w : World} {A : Option Addr} {n : Nat} (h : RowO w0 A n) (ho : Below w0.heap.size w0 w) {i : Nat} (hi : i < n) : ∃ b off : Nat, ∃ k c x o v : Int, A = some ⟨b, off, none⟩ ∧ w.cell? ⟨b, off + i * 5, none⟩ = some (.int .i64 k) ∧ w.cell? ⟨b, off + i * 5 + 1, none⟩ = some (.int .i64 c) ∧ w.cell? ⟨b, off + i * 5 + 2, none⟩ = some (.int .i64 x) ∧ w.cell? ⟨b, off + i * 5 + 3, none⟩ = some (.int .u64 o) ∧ w.cell? ⟨b, off + i * 5 + 4, none⟩ = some (.int .u64 v) ∧ InU o := by
  obtain ⟨b, off, rfl, hb, hc⟩ := h (by omega)
  obtain ⟨k, c, x, o, v, h0, h1, h2, h3, h4, h5⟩ := hc i hi
  have e := ho.block b hb
  exact ⟨b, off, k, c, x, o, v, rfl, (World.cell?_of_block e).trans h0, (World.cell?_of_block e).trans h1, (World.cell?_of_block e).trans h2, (World.cell?_of_block e).trans h3, (World.cell?_of_block e).trans h4, h5⟩
section
variable {H : Type} {enc : TypeId × Value → H} {W : World} {base : Nat} {sp : Nat → Bool} {held : Bool}
theorem five {n : Nat} {cs : List Value} {x : DataW H × List MemPlace} (h : DataW.trod enc Try.prog W base sp held n 51 cs = some x) : ∃ k c i o v : Int, cs = [.int .i64 k, .int .i64 c, .int .i64 i, .int .u64 o, .int .u64 v] ∧ InU o := by
  obtain ⟨k, c, i, o, v, h, _, _, _, ho, _⟩ := open_ops h
  exact ⟨k, c, i, o, v, h, ho⟩
theorem open_row {b0 : Nat} {v : Value} {d : DataW H} {ps : List MemPlace} (hval : Value.okWide Try.prog W .any b0 49 v) (hd : DataW.Trod enc Try.prog W base (fun _ => true) held 49 v d ps) :
    ∃ (A : Option Addr) (k c : Nat), v = .slice A k c ∧ k ≤ c ∧ c ≤ maxLen ∧ RowO W A k := by
  obtain ⟨A, n, c, rfl⟩ := okWide_slice Try.underlying49 hval
  obtain ⟨fuel, hf⟩ := hd
  have hc : Try.prog.cellsOf 51 = 5 := by kernel_rfl
  rcases Go.Deep.open_slice Try.underlying49 hf with ⟨hcs, _⟩ | ⟨a, len, cap, m, n', D, Pl, hcs, hb, hl, hm, hmm, hx, hi⟩
  · simp [Value.cells] at hcs
    obtain ⟨rfl, rfl, rfl⟩ := hcs
    exact ⟨none, 0, 0, rfl, Nat.le_refl _, Nat.zero_le _, fun h => absurd h (by omega)⟩
  · simp [Value.cells] at hcs
    obtain ⟨rfl, rfl, rfl⟩ := hcs
    simp only [if_true] at hmm
    have hmm' := hmm.symm
    subst hmm'
    rw [hc] at hi
    have each : ∀ i, i < c → ∃ q : Int × Int × Int × Int × Int, W.cell? (a.add (i * 5)) = some (.int .i64 q.1) ∧ W.cell? ((a.add (i * 5)).add 1) = some (.int .i64 q.2.1) ∧ W.cell? ((a.add (i * 5)).add 2) = some (.int .i64 q.2.2.1) ∧ W.cell? ((a.add (i * 5)).add 3) = some (.int .u64 q.2.2.2.1) ∧ W.cell? ((a.add (i * 5)).add 4) = some (.int .u64 q.2.2.2.2) ∧ InU q.2.2.2.1 := by
      intro i hic
      obtain ⟨cs', h1, h2⟩ := hi i hic
      obtain ⟨q0, q1, q2, q3, q4, rfl, hu⟩ := five h2
      obtain ⟨_, _, h3⟩ := World.cells?_some h1
      have k0 := h3 0 (by omega)
      have k1 := h3 1 (by omega)
      have k2 := h3 2 (by omega)
      have k3 := h3 3 (by omega)
      have k4 := h3 4 (by omega)
      refine ⟨(q0, q1, q2, q3, q4), ?_, ?_, ?_, ?_, ?_, hu⟩
      · simpa [Addr.add] using k0
      · simpa using k1
      · simpa using k2
      · simpa using k3
      · simpa using k4
    refine ⟨some a, n, c, rfl, hl, hm, fun h0 => ?_⟩
    obtain ⟨q, h00, _⟩ := each 0 (by omega)
    have hsp : a.spot = none := by
      have := World.cell?_spot h00
      simpa [Addr.add] using this
    obtain ⟨b, off, spot⟩ := a
    simp only at hsp
    subst hsp
    rw [Go.WideShapes.add_plain] at h00
    refine ⟨b, off, rfl, World.block_lt_of_cell? _ _ h00, fun i hin => ?_⟩
    obtain ⟨q, e0, e1, e2, e3, e4, e5⟩ := each i (by omega)
    rw [Go.WideShapes.add_plain] at e0
    rw [Go.WideShapes.add_plain, Go.WideShapes.add_plain] at e1 e2 e3 e4
    exact ⟨_, _, _, _, _, e0, e1, e2, e3, e4, e5⟩
end
end Go.Proofs.Ythgbfghhiadjpaa.CelOq
