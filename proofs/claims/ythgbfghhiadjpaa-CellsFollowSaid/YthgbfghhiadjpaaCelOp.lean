/-
  An argument that came in: an operation on a cell.
-/
import Derived.Test.YthgbfghhiadjpaaLayO
namespace Go.Proofs.Ythgbfghhiadjpaa.CelOp
open Go.ChangeShapes Go.WideShapes Go.ChangeAt Go.RowKit
open PlainT BlkW LawFrame LayS LayA LayO
set_option linter.unusedVariables false
set_option maxRecDepth 100000
set_option maxHeartbeats 1000000

abbrev opV (k c i o v : Int) : Value := .agg #[.int .i64 k, .int .i64 c, .int .i64 i, .int .u64 o, .int .u64 v]
def InU (x : Int) : Prop := 0 ≤ x ∧ x ≤ 18446744073709551615
theorem wf_u64 {x : Int} (h : (Lit.int .u64 x).wf = true) : InU x := by
  have h2 : IntKind.u64.min ≤ x ∧ x ≤ IntKind.u64.max := by simpa [Lit.wf] using h
  rw [show IntKind.u64.min = 0 by decide, show IntKind.u64.max = 18446744073709551615 by decide] at h2
  exact h2
section
variable {H : Type} {enc : TypeId × Value → H} {W : World} {base : Nat} {held : Bool}
theorem open_ops {sp : Nat → Bool} {n : Nat} {cs : List Value} {x : DataW H × List MemPlace} (h : DataW.trod enc Try.prog W base sp held n 51 cs = some x) :
    ∃ k c i o v : Int, cs = [.int .i64 k, .int .i64 c, .int .i64 i, .int .u64 o, .int .u64 v] ∧ InI k ∧ InI c ∧ InI i ∧ InU o ∧ InU v := by
  obtain ⟨xs, m, _, _, hl, hxl, hg⟩ := DataW.trod_struct Try.underlying51 h
  have hc : Try.prog.cellsOf 51 = 5 := by kernel_rfl
  have hci : Try.prog.cellsOf 3 = 1 := by kernel_rfl
  have hcu : Try.prog.cellsOf 29 = 1 := by kernel_rfl
  rw [hc] at hl
  match cs, hl with
  | [c0, c1, c2, c3, c4], _ =>
  match xs, hxl with
  | [y0, y1, y2, y3, y4], _ =>
    have g0 := hg 0 _ rfl
    have g1 := hg 1 _ rfl
    have g2 := hg 2 _ rfl
    have g3 := hg 3 _ rfl
    have g4 := hg 4 _ rfl
    simp only [List.getElem?_cons_zero, List.getElem?_cons_succ] at g0 g1 g2 g3 g4
    obtain ⟨z0, e0, _, w0⟩ := DataW.trod_int Try.underlying3 g0
    obtain ⟨z1, e1, _, w1⟩ := DataW.trod_int Try.underlying3 g1
    obtain ⟨z2, e2, _, w2⟩ := DataW.trod_int Try.underlying3 g2
    obtain ⟨z3, e3, _, w3⟩ := DataW.trod_int Try.underlying29 g3
    obtain ⟨z4, e4, _, w4⟩ := DataW.trod_int Try.underlying29 g4
    simp [hci, hcu] at e0 e1 e2 e3 e4
    subst e0 e1 e2 e3 e4
    exact ⟨z0, z1, z2, z3, z4, rfl, bounds_i64 w0, bounds_i64 w1, bounds_i64 w2, wf_u64 w3, wf_u64 w4⟩
theorem open_op {b0 : Nat} {sp : Nat → Bool} {v : Value} {d : DataW H} {ps : List MemPlace} (hval : Value.okWide Try.prog W .any b0 51 v) (hd : DataW.Trod enc Try.prog W base sp held 51 v d ps) : ∃ k c i o x, v = opV k c i o x ∧ InI k ∧ InI c ∧ InI i ∧ InU o ∧ InU x := by
  obtain ⟨cs, rfl, hs⟩ := okWide_struct Try.underlying51 hval
  obtain ⟨fuel, hf⟩ := hd
  obtain ⟨k, c, i, o, x, hq, h⟩ := open_ops hf
  refine ⟨k, c, i, o, x, ?_, h⟩
  obtain ⟨l⟩ := cs
  simp only [Value.cells] at hq
  subst hq
  rfl
end
end Go.Proofs.Ythgbfghhiadjpaa.CelOp
