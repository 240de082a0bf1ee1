/-
  Arguments that came in: a configuration, an array of integers.
-/
import Derived.Test.YtpjbmbipkmpkhaaLayA
import Derived.Deep.Slices
import Derived.OpenShut
namespace Go.Proofs.Ytpjbmbipkmpkhaa.LayO
open Go.ChangeShapes Go.WideShapes Go.ChangeAt Go.RowKit
open PlainT BlkW LawFrame LayS LayA
set_option linter.unusedVariables false
set_option maxRecDepth 100000
set_option maxHeartbeats 1000000

section
variable {H : Type} {enc : TypeId × Value → H} {W : World} {base : Nat} {held : Bool}
theorem open_cfg {sp : Nat → Bool} {n : Nat} {cs : List Value} {x : DataW H × List MemPlace} (h : DataW.trod enc Try.prog W base sp held n TC cs = some x) :
    ∃ q : Cfg, cs = (cells q).toList := by
  obtain ⟨xs, m, _, _, hl, hxl, hg⟩ := DataW.trod_struct Try.underlying43 h
  have hc : Try.prog.cellsOf 43 = 13 := by kernel_rfl
  have hci : Try.prog.cellsOf 3 = 1 := by kernel_rfl
  have hcb : Try.prog.cellsOf 4 = 1 := by kernel_rfl
  have hca : Try.prog.cellsOf 41 = 4 := by kernel_rfl
  rw [hc] at hl
  match cs, hl with
  | [c0, c1, c2, c3, c4, c5, c6, c7, c8, c9, c10, c11, c12], _ =>
  match xs, hxl with
  | [y0, y1, y2, y3, y4, y5, y6, y7, y8, y9], _ =>
    have g0 := hg 0 _ rfl
    have g1 := hg 1 _ rfl
    have g2 := hg 2 _ rfl
    have g3 := hg 3 _ rfl
    have g4 := hg 4 _ rfl
    have g5 := hg 5 _ rfl
    have g6 := hg 6 _ rfl
    have g7 := hg 7 _ rfl
    have g8 := hg 8 _ rfl
    have g9 := hg 9 _ rfl
    simp only [List.getElem?_cons_zero, List.getElem?_cons_succ] at g0 g1 g2 g3 g4 g5 g6 g7 g8 g9
    obtain ⟨z0, e0, _, w0⟩ := DataW.trod_int Try.underlying3 g0
    obtain ⟨z1, e1, _, w1⟩ := DataW.trod_int Try.underlying3 g1
    obtain ⟨z2, e2, _, w2⟩ := DataW.trod_int Try.underlying3 g2
    obtain ⟨z7, e7, _, w7⟩ := DataW.trod_int Try.underlying3 g4
    obtain ⟨z8, e8, _, w8⟩ := DataW.trod_int Try.underlying3 g5
    obtain ⟨z9, e9, _, w9⟩ := DataW.trod_int Try.underlying3 g6
    obtain ⟨z10, e10, _, w10⟩ := DataW.trod_int Try.underlying3 g7
    obtain ⟨z11, e11, _, w11⟩ := DataW.trod_int Try.underlying3 g8
    obtain ⟨b, eb, _⟩ := DataW.trod_bool Try.underlying4 g9
    obtain ⟨us, m3, _, _, hl3, hul, hu⟩ := DataW.trod_array Try.underlying41 g3
    match us, hul with
    | [u0, u1, u2, u3], _ =>
    have k0 := hu 0 (by omega)
    have k1 := hu 1 (by omega)
    have k2 := hu 2 (by omega)
    have k3 := hu 3 (by omega)
    simp only [List.getElem?_cons_zero, List.getElem?_cons_succ] at k0 k1 k2 k3
    obtain ⟨z3, e3, _, w3⟩ := DataW.trod_int Try.underlying3 k0
    obtain ⟨z4, e4, _, w4⟩ := DataW.trod_int Try.underlying3 k1
    obtain ⟨z5, e5, _, w5⟩ := DataW.trod_int Try.underlying3 k2
    obtain ⟨z6, e6, _, w6⟩ := DataW.trod_int Try.underlying3 k3
    simp [hci, hca, hcb] at e0 e1 e2 e3 e4 e5 e6 e7 e8 e9 e10 e11 eb
    subst e0 e1 e2 e3 e4 e5 e6 e7 e8 e9 e10 e11 eb
    exact ⟨⟨z0, z1, z2, z3, z4, z5, z6, z7, z8, z9, z10, z11, b⟩, rfl⟩
theorem open_config {b0 : Nat} {sp : Nat → Bool} {v : Value} {d : DataW H} {ps : List MemPlace} (hval : Value.okWide Try.prog W .any b0 TC v) (hd : DataW.Trod enc Try.prog W base sp held TC v d ps) : ∃ q, v = cfgV q := by
  obtain ⟨cs, rfl, hs⟩ := okWide_struct Try.underlying43 hval
  obtain ⟨fuel, hf⟩ := hd
  obtain ⟨q, hq⟩ := open_cfg hf
  refine ⟨q, ?_⟩
  obtain ⟨l⟩ := cs
  simp only [Value.cells] at hq
  subst hq
  rfl
theorem open_arr5 {b0 : Nat} {sp : Nat → Bool} {v : Value} {d : DataW H} {ps : List MemPlace} (hval : Value.okWide Try.prog W .any b0 22 v) (hd : DataW.Trod enc Try.prog W base sp held 22 v d ps) :
    ∃ z0 z1 z2 z3 z4 : Int, v = .agg #[.int .i64 z0, .int .i64 z1, .int .i64 z2, .int .i64 z3, .int .i64 z4] ∧ InI z0 ∧ InI z1 ∧ InI z2 ∧ InI z3 ∧ InI z4 := by
  have hv := hval
  simp only [Value.okWide, Try.underlying22] at hv
  obtain ⟨cs, rfl, hs, _⟩ := hv
  obtain ⟨fuel, hf⟩ := hd
  obtain ⟨us, m3, _, _, hl3, hul, hu⟩ := DataW.trod_array Try.underlying22 hf
  have hc : Try.prog.cellsOf 22 = 5 := by kernel_rfl
  have hci : Try.prog.cellsOf 3 = 1 := by kernel_rfl
  rw [hc] at hs
  obtain ⟨l⟩ := cs
  match l, hs with
  | [c0, c1, c2, c3, c4], _ =>
  match us, hul with
  | [u0, u1, u2, u3, u4], _ =>
    have k0 := hu 0 (by omega)
    have k1 := hu 1 (by omega)
    have k2 := hu 2 (by omega)
    have k3 := hu 3 (by omega)
    have k4 := hu 4 (by omega)
    simp only [List.getElem?_cons_zero, List.getElem?_cons_succ] at k0 k1 k2 k3 k4
    obtain ⟨z0, e0, _, w0⟩ := DataW.trod_int Try.underlying3 k0
    obtain ⟨z1, e1, _, w1⟩ := DataW.trod_int Try.underlying3 k1
    obtain ⟨z2, e2, _, w2⟩ := DataW.trod_int Try.underlying3 k2
    obtain ⟨z3, e3, _, w3⟩ := DataW.trod_int Try.underlying3 k3
    obtain ⟨z4, e4, _, w4⟩ := DataW.trod_int Try.underlying3 k4
    simp [hci, Value.cells] at e0 e1 e2 e3 e4
    subst e0 e1 e2 e3 e4
    exact ⟨z0, z1, z2, z3, z4, rfl, bounds_i64 w0, bounds_i64 w1, bounds_i64 w2, bounds_i64 w3, bounds_i64 w4⟩
theorem open_arr4 {b0 : Nat} {sp : Nat → Bool} {v : Value} {d : DataW H} {ps : List MemPlace} (hval : Value.okWide Try.prog W .any b0 41 v) (hd : DataW.Trod enc Try.prog W base sp held 41 v d ps) :
    ∃ z0 z1 z2 z3 : Int, v = .agg #[.int .i64 z0, .int .i64 z1, .int .i64 z2, .int .i64 z3] ∧ InI z0 ∧ InI z1 ∧ InI z2 ∧ InI z3 := by
  have hv := hval
  simp only [Value.okWide, Try.underlying41] at hv
  obtain ⟨cs, rfl, hs, _⟩ := hv
  obtain ⟨fuel, hf⟩ := hd
  obtain ⟨us, m3, _, _, hl3, hul, hu⟩ := DataW.trod_array Try.underlying41 hf
  have hc : Try.prog.cellsOf 41 = 4 := by kernel_rfl
  have hci : Try.prog.cellsOf 3 = 1 := by kernel_rfl
  rw [hc] at hs
  obtain ⟨l⟩ := cs
  match l, hs with
  | [c0, c1, c2, c3], _ =>
  match us, hul with
  | [u0, u1, u2, u3], _ =>
    have k0 := hu 0 (by omega)
    have k1 := hu 1 (by omega)
    have k2 := hu 2 (by omega)
    have k3 := hu 3 (by omega)
    simp only [List.getElem?_cons_zero, List.getElem?_cons_succ] at k0 k1 k2 k3
    obtain ⟨z0, e0, _, w0⟩ := DataW.trod_int Try.underlying3 k0
    obtain ⟨z1, e1, _, w1⟩ := DataW.trod_int Try.underlying3 k1
    obtain ⟨z2, e2, _, w2⟩ := DataW.trod_int Try.underlying3 k2
    obtain ⟨z3, e3, _, w3⟩ := DataW.trod_int Try.underlying3 k3
    simp [hci, Value.cells] at e0 e1 e2 e3
    subst e0 e1 e2 e3
    exact ⟨z0, z1, z2, z3, rfl, bounds_i64 w0, bounds_i64 w1, bounds_i64 w2, bounds_i64 w3⟩
end
end Go.Proofs.Ytpjbmbipkmpkhaa.LayO
