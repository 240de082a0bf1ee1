/-
  An argument that came in: a row of instructions.
-/
import Derived.Test.YtcplhochgngedaaGreatDoorDisB
import Derived.Deep.Slices
namespace Go.Proofs.YtcplhochgngedaaGreatDoor.AsmO
open Go.ChangeShapes Go.WideShapes Go.ChangeAt Go.RowKit
open PlainT IsaE IsaS BlkW IsaA IsaB IsaF AsmT AsmC AsmE AsmF DisA DisB
set_option linter.unusedVariables false
set_option maxRecDepth 100000
set_option maxHeartbeats 1000000
section
variable {H : Type} {enc : TypeId × Value → H} {W : World} {base : Nat} {held : Bool}
theorem open_five {sp : Nat → Bool} {n : Nat} {cs : List Value} {x : DataW H × List MemPlace} (h : DataW.trod enc Tryz.prog W base sp held n 40 cs = some x) :
    ∃ y : In, cs = [.int .i64 y.1, .int .i64 y.2.a, .int .i64 y.2.b, .int .i64 y.2.c, .int .i64 y.2.i] ∧ OkI y := by
  obtain ⟨xs, m, _, _, hl, hxl, hg⟩ := DataW.trod_struct Tryz.underlying40 h
  have hc : Tryz.prog.cellsOf 40 = 5 := by kernel_rfl
  have hci : Tryz.prog.cellsOf 3 = 1 := by kernel_rfl
  rw [hc] at hl
  match cs, hl with
  | [c0, c1, c2, c3, c4], _ =>
  match xs, hxl with
  | [y0, y1, y2, y3, y4], _ =>
    have g0 := hg 0 _ rfl
    have g1 := hg 1 _ rfl
    have g2 := hg 2 _ rfl
    have g3 := hg 3 _ rfl
    have g4 := hg 4 _ rfl
    simp only [List.getElem?_cons_zero, List.getElem?_cons_succ] at g0 g1 g2 g3 g4
    obtain ⟨z0, e0, _, w0⟩ := DataW.trod_int Tryz.underlying3 g0
    obtain ⟨z1, e1, _, w1⟩ := DataW.trod_int Tryz.underlying3 g1
    obtain ⟨z2, e2, _, w2⟩ := DataW.trod_int Tryz.underlying3 g2
    obtain ⟨z3, e3, _, w3⟩ := DataW.trod_int Tryz.underlying3 g3
    obtain ⟨z4, e4, _, w4⟩ := DataW.trod_int Tryz.underlying3 g4
    simp [hci] at e0 e1 e2 e3 e4
    subst e0 e1 e2 e3 e4
    exact ⟨(z0, ⟨z1, z2, z3, z4⟩), rfl, bounds_i64 w0, bounds_i64 w1, bounds_i64 w2, bounds_i64 w3, bounds_i64 w4⟩
theorem open_instrs {b0 : Nat} {v : Value} {d : DataW H} {ps : List MemPlace} (hval : Value.okWide Tryz.prog W .any b0 23 v) (hd : DataW.Trod enc Tryz.prog W base (fun _ => true) held 23 v d ps) :
    ∃ (A : Option Addr) (k c : Nat) (qs : List In), v = .slice A k c ∧ k ≤ c ∧ c ≤ maxLen ∧ RowP W A k qs ∧ ∀ x ∈ qs, OkI x := by
  obtain ⟨A, n, c, rfl⟩ := okWide_slice Tryz.underlying23 hval
  obtain ⟨fuel, hf⟩ := hd
  have hc : Tryz.prog.cellsOf 40 = 5 := by kernel_rfl
  rcases Go.Deep.open_slice Tryz.underlying23 hf with ⟨hcs, _⟩ | ⟨a, len, cap, m, n', D, Pl, hcs, hb, hl, hm, hmm, hx, hi⟩
  · simp [Value.cells] at hcs
    obtain ⟨rfl, rfl, rfl⟩ := hcs
    exact ⟨none, 0, 0, [], rfl, Nat.le_refl _, Nat.zero_le _, ⟨rfl, fun h => absurd h (by omega)⟩, fun x hx => by cases hx⟩
  · simp [Value.cells] at hcs
    obtain ⟨rfl, rfl, rfl⟩ := hcs
    simp only [if_true] at hmm
    have hmm' := hmm.symm
    subst hmm'
    rw [hc] at hi
    have each : ∀ i : Nat, ∃ q : In, i < c → (W.cell? (a.add (i * 5)) = some (.int .i64 q.1) ∧ W.cell? ((a.add (i * 5)).add 1) = some (.int .i64 q.2.a) ∧ W.cell? ((a.add (i * 5)).add 2) = some (.int .i64 q.2.b) ∧ W.cell? ((a.add (i * 5)).add 3) = some (.int .i64 q.2.c) ∧ W.cell? ((a.add (i * 5)).add 4) = some (.int .i64 q.2.i)) ∧ OkI q := by
      intro i
      by_cases hic : i < c
      · obtain ⟨cs', h1, h2⟩ := hi i hic
        obtain ⟨q, rfl, hO⟩ := open_five h2
        obtain ⟨_, _, h3⟩ := World.cells?_some h1
        have k0 := h3 0 (by omega)
        have k1 := h3 1 (by omega)
        have k2 := h3 2 (by omega)
        have k3 := h3 3 (by omega)
        have k4 := h3 4 (by omega)
        refine ⟨q, fun _ => ⟨⟨?_, ?_, ?_, ?_, ?_⟩, hO⟩⟩
        · simpa [Addr.add] using k0
        · simpa using k1
        · simpa using k2
        · simpa using k3
        · simpa using k4
      · exact ⟨(0, ⟨0, 0, 0, 0⟩), fun h => absurd h hic⟩
    obtain ⟨f, hfe⟩ := Classical.axiomOfChoice each
    have hlen : ((List.range n).map f).length = n := by rw [List.length_map, List.length_range]
    refine ⟨some a, n, c, (List.range n).map f, rfl, hl, hm, ⟨hlen, fun h0 => ?_⟩, fun x hx => ?_⟩
    · have h00 := (hfe 0 (by omega)).1.1
      have hsp : a.spot = none := by
        have := World.cell?_spot h00
        simpa [Addr.add] using this
      obtain ⟨b, off, spot⟩ := a
      simp only at hsp
      subst hsp
      rw [Go.WideShapes.add_plain] at h00
      refine ⟨b, off, rfl, World.block_lt_of_cell? _ _ h00, fun j u hu => ?_⟩
      have hj : j < 5 * n := by
        have := (List.getElem?_eq_some_iff.1 hu).1
        rw [rowCells_length, hlen] at this
        omega
      have hk : j / 5 < n := by omega
      have hr : j % 5 < 5 := by omega
      obtain ⟨⟨e0, e1, e2, e3, e4⟩, _⟩ := hfe (j / 5) (by omega)
      have hg := rowCells_get ((List.range n).map f) (j / 5) (j % 5) (by rw [hlen]; exact hk) hr
      rw [show j / 5 * 5 + j % 5 = j by omega] at hg
      rw [hu] at hg
      have hgd : ((List.range n).map f).getD (j / 5) (0, ⟨0, 0, 0, 0⟩) = f (j / 5) := by
        rw [List.getD_eq_getElem?_getD, List.getElem?_map, List.getElem?_range hk]
        rfl
      rw [hgd] at hg
      rw [Go.WideShapes.add_plain] at e0
      rw [Go.WideShapes.add_plain, Go.WideShapes.add_plain] at e1 e2 e3 e4
      have hc5 : j % 5 = 0 ∨ j % 5 = 1 ∨ j % 5 = 2 ∨ j % 5 = 3 ∨ j % 5 = 4 := by omega
      have hj5 : j = j / 5 * 5 + j % 5 := by omega
      rw [hj5, ← Nat.add_assoc]
      rcases hc5 with e | e | e | e | e <;> rw [e] at hg ⊢ <;> (injection hg with hg; subst hg) <;> assumption
    · obtain ⟨i, hi2, rfl⟩ := List.mem_map.1 hx
      have := List.mem_range.1 hi2
      exact (hfe i (by omega)).2
end
end Go.Proofs.YtcplhochgngedaaGreatDoor.AsmO
