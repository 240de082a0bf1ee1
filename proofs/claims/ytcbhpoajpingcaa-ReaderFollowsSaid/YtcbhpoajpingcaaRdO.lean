/-
  An argument that came in: a row of changes of cells.
-/
import Derived.Test.YtcbhpoajpingcaaLayO
import Derived.Deep.Slices
namespace Go.Proofs.Ytcbhpoajpingcaa.RdO
open Go.ChangeShapes Go.WideShapes Go.ChangeAt Go.RowKit
open PlainT BlkW LawFrame LayS LayA LayO
set_option linter.unusedVariables false
set_option maxRecDepth 100000
set_option maxHeartbeats 1000000

/-- A row of n changes. -/
def RowC (w : World) (A : Option Addr) (n : Nat) : Prop := 0 < n → ∃ b off : Nat, A = some ⟨b, off, none⟩ ∧ b < w.heap.size ∧ ∀ i, i < n → ∃ (o : Bool) (v : Int), w.cell? ⟨b, off + i * 2, none⟩ = some (.bool o) ∧ w.cell? ⟨b, off + i * 2 + 1, none⟩ = some (.int .i64 v)
theorem RowC.at_ {w0 w : World} {A : Option Addr} {n : Nat} (h : RowC w0 A n) (ho : Below w0.heap.size w0 w) {i : Nat} (hi : i < n) : ∃ b off : Nat, ∃ (o : Bool) (v : Int), A = some ⟨b, off, none⟩ ∧ w.cell? ⟨b, off + i * 2, none⟩ = some (.bool o) ∧ w.cell? ⟨b, off + i * 2 + 1, none⟩ = some (.int .i64 v) := by
  obtain ⟨b, off, rfl, hb, hc⟩ := h (by omega)
  obtain ⟨o, v, h0, h1⟩ := hc i hi
  have e := ho.block b hb
  exact ⟨b, off, o, v, rfl, (World.cell?_of_block e).trans h0, (World.cell?_of_block e).trans h1⟩
section
variable {H : Type} {enc : TypeId × Value → H} {W : World} {base : Nat} {sp : Nat → Bool} {held : Bool}
theorem two {n : Nat} {cs : List Value} {x : DataW H × List MemPlace} (h : DataW.trod enc Try.prog W base sp held n 91 cs = some x) : ∃ (o : Bool) (v : Int), cs = [.bool o, .int .i64 v] := by
  obtain ⟨xs, m, _, _, hl, hxl, hg⟩ := DataW.trod_struct Try.underlying91 h
  have hc : Try.prog.cellsOf 91 = 2 := by kernel_rfl
  have hci : Try.prog.cellsOf 3 = 1 := by kernel_rfl
  have hcb : Try.prog.cellsOf 4 = 1 := by kernel_rfl
  rw [hc] at hl
  match cs, hl with
  | [c0, c1], _ =>
  match xs, hxl with
  | [y0, y1], _ =>
    have g0 := hg 0 _ rfl
    have g1 := hg 1 _ rfl
    simp only [List.getElem?_cons_zero, List.getElem?_cons_succ] at g0 g1
    obtain ⟨z0, e0, _⟩ := DataW.trod_bool Try.underlying4 g0
    obtain ⟨z1, e1, _, w1⟩ := DataW.trod_int Try.underlying3 g1
    simp [hci, hcb] at e0 e1
    subst e0 e1
    exact ⟨z0, z1, rfl⟩
theorem open_row {b0 : Nat} {v : Value} {d : DataW H} {ps : List MemPlace} (hval : Value.okWide Try.prog W .any b0 85 v) (hd : DataW.Trod enc Try.prog W base (fun _ => true) held 85 v d ps) :
    ∃ (A : Option Addr) (k c : Nat), v = .slice A k c ∧ k ≤ c ∧ c ≤ maxLen ∧ RowC W A k := by
  obtain ⟨A, n, c, rfl⟩ := okWide_slice Try.underlying85 hval
  obtain ⟨fuel, hf⟩ := hd
  have hc : Try.prog.cellsOf 91 = 2 := by kernel_rfl
  rcases Go.Deep.open_slice Try.underlying85 hf with ⟨hcs, _⟩ | ⟨a, len, cap, m, n', D, Pl, hcs, hb, hl, hm, hmm, hx, hi⟩
  · simp [Value.cells] at hcs
    obtain ⟨rfl, rfl, rfl⟩ := hcs
    exact ⟨none, 0, 0, rfl, Nat.le_refl _, Nat.zero_le _, fun h => absurd h (by omega)⟩
  · simp [Value.cells] at hcs
    obtain ⟨rfl, rfl, rfl⟩ := hcs
    simp only [if_true] at hmm
    have hmm' := hmm.symm
    subst hmm'
    rw [hc] at hi
    have each : ∀ i, i < c → ∃ q : Bool × Int, W.cell? (a.add (i * 2)) = some (.bool q.1) ∧ W.cell? ((a.add (i * 2)).add 1) = some (.int .i64 q.2) := by
      intro i hic
      obtain ⟨cs', h1, h2⟩ := hi i hic
      obtain ⟨q0, q1, rfl⟩ := two h2
      obtain ⟨_, _, h3⟩ := World.cells?_some h1
      have k0 := h3 0 (by omega)
      have k1 := h3 1 (by omega)
      refine ⟨(q0, q1), ?_, ?_⟩
      · simpa [Addr.add] using k0
      · simpa using k1
    refine ⟨some a, n, c, rfl, hl, hm, fun h0 => ?_⟩
    obtain ⟨q, h00, _⟩ := each 0 (by omega)
    have hsp : a.spot = none := by
      have := World.cell?_spot h00
      simpa [Addr.add] using this
    obtain ⟨b, off, spot⟩ := a
    simp only at hsp
    subst hsp
    rw [Go.WideShapes.add_plain] at h00
    refine ⟨b, off, rfl, World.block_lt_of_cell? _ _ h00, fun i hin => ?_⟩
    obtain ⟨q, e0, e1⟩ := each i (by omega)
    rw [Go.WideShapes.add_plain] at e0
    rw [Go.WideShapes.add_plain, Go.WideShapes.add_plain] at e1
    exact ⟨_, _, e0, e1⟩
end
end Go.Proofs.Ytcbhpoajpingcaa.RdO
