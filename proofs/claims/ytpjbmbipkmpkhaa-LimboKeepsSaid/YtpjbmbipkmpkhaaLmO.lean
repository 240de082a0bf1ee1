/-
  An argument that came in: a row of rows of integers. An argument that came in: a row of additions to a limbo, each with a row of numbers.
-/
import Derived.Test.YtpjbmbipkmpkhaaLayO
import Derived.Test.YtpjbmbipkmpkhaaFrame
import Derived.Deep.Slices
import Derived.Laws.Tables
import Derived.Laws.Rows
namespace Go.Proofs.Ytpjbmbipkmpkhaa.ArgL
open Go.ChangeShapes Go.WideShapes Go.ChangeAt Go.RowKit
open PlainT BlkW LawFrame
set_option linter.unusedVariables false
set_option maxRecDepth 100000

/-- A row of rows of integers that came in as an argument. -/
def LL (w : World) (A : Option Addr) (n : Nat) : Prop := ∀ i, i < n → ∃ b off Ai ni ci zi, A = some ⟨b, off, none⟩ ∧ b < w.heap.size ∧ w.cell? ⟨b, off + i, none⟩ = some (.slice Ai ni ci) ∧ ni ≤ ci ∧ ci ≤ maxLen ∧ Ints .i64 w Ai ni zi
section
variable {H : Type} {enc : TypeId × Value → H} {W : World} {base : Nat} {held : Bool}
theorem open_irow {k : IntKind} {t e : TypeId} {n : Nat} {v : Value} {x : DataW H × List MemPlace} (ht : Try.prog.underlying t = some (.slice e)) (he : Try.prog.underlying e = some (.int k)) (hc : Try.prog.cellsOf e = 1) (h : DataW.trod enc Try.prog W base (fun _ => true) held n t [v] = some x) :
    ∃ A m c z, v = .slice A m c ∧ m ≤ c ∧ c ≤ maxLen ∧ Ints k W A m z := by
  rcases open_ints ht he hc h with ⟨hcs, _⟩ | ⟨a, len, cap, zs, hcs, _, hl, hm, hz, _, hcell, hw⟩
  · simp at hcs
    exact ⟨none, 0, 0, [], hcs, Nat.le_refl _, Nat.zero_le _, rfl, by simp, fun h => absurd h (by omega)⟩
  · simp at hcs
    simp only [if_true] at hz
    refine ⟨some a, len, cap, zs.take len, hcs, hl, hm, by rw [List.length_take]; omega, fun z hz' => hw z (List.mem_of_mem_take hz'), fun hn => ?_⟩
    obtain ⟨b, off, rfl, hc'⟩ := ints_at hcell (by omega)
    refine ⟨b, off, rfl, World.block_lt_of_cell? _ _ (hc' 0 (by omega)), fun i hi => ?_⟩
    rw [hc' i (by omega)]
    congr 2
    simp [hi]
end
end Go.Proofs.Ytpjbmbipkmpkhaa.ArgL
namespace Go.Proofs.Ytpjbmbipkmpkhaa.LmO
open Go.ChangeShapes Go.WideShapes Go.ChangeAt Go.RowKit
open PlainT BlkW LawFrame LayS LayA LayO ArgL
set_option linter.unusedVariables false
set_option maxRecDepth 100000
set_option maxHeartbeats 1000000

/-- What the entry at an address is. -/
def Ent (w : World) (b o : Nat) (d : Bool) (v : Int) (Ai : Option Addr) (ni ci : Nat) (zi : List Int) : Prop :=
  w.cell? ⟨b, o, none⟩ = some (.bool d) ∧ w.cell? ⟨b, o + 1, none⟩ = some (.int .i64 v) ∧ w.cell? ⟨b, o + 2, none⟩ = some (.slice Ai ni ci) ∧ ni ≤ ci ∧ ci ≤ maxLen ∧ Ints .i64 w Ai ni zi
/-- A row of n additions. -/
def RowD (w : World) (A : Option Addr) (n : Nat) : Prop := 0 < n → ∃ b off : Nat, A = some ⟨b, off, none⟩ ∧ b < w.heap.size ∧ ∀ i, i < n → ∃ d v Ai ni ci zi, Ent w b (off + i * 3) d v Ai ni ci zi
theorem RowD.at_ {w0 w : World} {A : Option Addr} {n : Nat} (h : RowD w0 A n) (ho : Below w0.heap.size w0 w) {i : Nat} (hi : i < n) : ∃ b off : Nat, ∃ d v Ai ni ci zi, A = some ⟨b, off, none⟩ ∧ w.cell? ⟨b, off + i * 3, none⟩ = some (.bool d) ∧ w.cell? ⟨b, off + i * 3 + 1, none⟩ = some (.int .i64 v) ∧ w.cell? ⟨b, off + i * 3 + 2, none⟩ = some (.slice Ai ni ci) ∧ ni ≤ ci ∧ ci ≤ maxLen ∧ Ints .i64 w0 Ai ni zi := by
  obtain ⟨b, off, rfl, hb, hc⟩ := h (by omega)
  obtain ⟨d, v, Ai, ni, ci, zi, h0, h1, h2, h3, h4, h5⟩ := hc i hi
  have e := ho.block b hb
  exact ⟨b, off, d, v, Ai, ni, ci, zi, rfl, (World.cell?_of_block e).trans h0, (World.cell?_of_block e).trans h1, (World.cell?_of_block e).trans h2, h3, h4, h5⟩
/-- A slice of an entry stays what it is. -/
theorem RowD.two {w0 w : World} {b off n i ni ci : Nat} {Ai : Option Addr} (h : RowD w0 (some ⟨b, off, none⟩) n) (hi : i < n) (e : w.cell? ⟨b, off + i * 3 + 2, none⟩ = some (.slice Ai ni ci)) (hb : Below w0.heap.size w0 w) : ∀ W, Below w0.heap.size w0 W → W.cell? ⟨b, off + i * 3 + 2, none⟩ = some (.slice Ai ni ci) := by
  obtain ⟨b', off', e1, hlt, _⟩ := h (by omega)
  injection e1 with e1
  injection e1 with e2 e3
  subst e2
  intro W hW
  rw [World.cell?_of_block (hW.block b hlt), ← World.cell?_of_block (hb.block b hlt)]
  exact e
section
variable {H : Type} {enc : TypeId × Value → H} {W : World} {base : Nat} {held : Bool}
theorem three {n : Nat} {cs : List Value} {x : DataW H × List MemPlace} (h : DataW.trod enc Try.prog W base (fun _ => true) held n 95 cs = some x) : ∃ (d : Bool) (v : Int) (Ai : Option Addr) (ni ci : Nat) (zi : List Int), cs = [.bool d, .int .i64 v, .slice Ai ni ci] ∧ ni ≤ ci ∧ ci ≤ maxLen ∧ Ints .i64 W Ai ni zi := by
  obtain ⟨xs, m, _, _, hl, hxl, hg⟩ := DataW.trod_struct Try.underlying95 h
  have hc : Try.prog.cellsOf 95 = 3 := by kernel_rfl
  have hci : Try.prog.cellsOf 3 = 1 := by kernel_rfl
  have hcb : Try.prog.cellsOf 4 = 1 := by kernel_rfl
  have hcs : Try.prog.cellsOf 47 = 1 := by kernel_rfl
  rw [hc] at hl
  match cs, hl with
  | [c0, c1, c2], _ =>
  match xs, hxl with
  | [y0, y1, y2], _ =>
    have g0 := hg 0 _ rfl
    have g1 := hg 1 _ rfl
    have g2 := hg 2 _ rfl
    simp only [List.getElem?_cons_zero, List.getElem?_cons_succ] at g0 g1 g2
    obtain ⟨z0, e0, _⟩ := DataW.trod_bool Try.underlying4 g0
    obtain ⟨z1, e1, _, w1⟩ := DataW.trod_int Try.underlying3 g1
    simp [hci, hcb] at e0 e1
    subst e0 e1
    simp [hcs] at g2
    obtain ⟨Ai, ni, ci, zi, rfl, h1, h2, h3⟩ := open_irow Try.underlying47 Try.underlying3 hci g2
    exact ⟨z0, z1, Ai, ni, ci, zi, rfl, h1, h2, h3⟩
theorem open_row {b0 : Nat} {v : Value} {d : DataW H} {ps : List MemPlace} (hval : Value.okWide Try.prog W .any b0 89 v) (hd : DataW.Trod enc Try.prog W base (fun _ => true) held 89 v d ps) :
    ∃ (A : Option Addr) (k c : Nat), v = .slice A k c ∧ k ≤ c ∧ c ≤ maxLen ∧ RowD W A k := by
  obtain ⟨A, n, c, rfl⟩ := okWide_slice Try.underlying89 hval
  obtain ⟨fuel, hf⟩ := hd
  have hc : Try.prog.cellsOf 95 = 3 := by kernel_rfl
  rcases Go.Deep.open_slice Try.underlying89 hf with ⟨hcs, _⟩ | ⟨a, len, cap, m, n', D, Pl, hcs, hb, hl, hm, hmm, hx, hi⟩
  · simp [Value.cells] at hcs
    obtain ⟨rfl, rfl, rfl⟩ := hcs
    exact ⟨none, 0, 0, rfl, Nat.le_refl _, Nat.zero_le _, fun h => absurd h (by omega)⟩
  · simp [Value.cells] at hcs
    obtain ⟨rfl, rfl, rfl⟩ := hcs
    simp only [if_true] at hmm
    have hmm' := hmm.symm
    subst hmm'
    rw [hc] at hi
    have each : ∀ i, i < c → ∃ (d : Bool) (v : Int) (Ai : Option Addr) (ni ci : Nat) (zi : List Int), W.cell? (a.add (i * 3)) = some (.bool d) ∧ W.cell? ((a.add (i * 3)).add 1) = some (.int .i64 v) ∧ W.cell? ((a.add (i * 3)).add 2) = some (.slice Ai ni ci) ∧ ni ≤ ci ∧ ci ≤ maxLen ∧ Ints .i64 W Ai ni zi := by
      intro i hic
      obtain ⟨cs', h1, h2⟩ := hi i hic
      obtain ⟨d, v, Ai, ni, ci, zi, rfl, h4, h5, h6⟩ := three h2
      obtain ⟨_, _, h3⟩ := World.cells?_some h1
      have k0 := h3 0 (by omega)
      have k1 := h3 1 (by omega)
      have k2 := h3 2 (by omega)
      refine ⟨d, v, Ai, ni, ci, zi, ?_, ?_, ?_, h4, h5, h6⟩
      · simpa [Addr.add] using k0
      · simpa using k1
      · simpa using k2
    refine ⟨some a, n, c, rfl, hl, hm, fun h0 => ?_⟩
    obtain ⟨_, _, _, _, _, _, h00, _⟩ := each 0 (by omega)
    have hsp : a.spot = none := by
      have := World.cell?_spot h00
      simpa [Addr.add] using this
    obtain ⟨b, off, spot⟩ := a
    simp only at hsp
    subst hsp
    rw [Go.WideShapes.add_plain] at h00
    refine ⟨b, off, rfl, World.block_lt_of_cell? _ _ h00, fun i hin => ?_⟩
    obtain ⟨d, v, Ai, ni, ci, zi, e0, e1, e2, h4, h5, h6⟩ := each i (by omega)
    rw [Go.WideShapes.add_plain] at e0
    rw [Go.WideShapes.add_plain, Go.WideShapes.add_plain] at e1 e2
    exact ⟨d, v, Ai, ni, ci, zi, e0, e1, e2, h4, h5, h6⟩
end
end Go.Proofs.Ytpjbmbipkmpkhaa.LmO
