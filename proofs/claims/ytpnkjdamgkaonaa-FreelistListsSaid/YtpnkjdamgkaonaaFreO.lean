/-
  An argument that came in: an image of cells.
-/
import Derived.Test.YtpnkjdamgkaonaaCelI
import Derived.Test.YtpnkjdamgkaonaaFrame
import Derived.Deep.Slices
import Derived.OpenShut
namespace Go.Proofs.Ytpnkjdamgkaonaa.FreO
open Go.ChangeShapes Go.WideShapes Go.ChangeAt Go.RowKit
open PlainT BlkW LawFrame CelS CelM CelI
set_option linter.unusedVariables false
set_option maxRecDepth 100000
set_option maxHeartbeats 1000000

section
variable {H : Type} {enc : TypeId × Value → H} {W : World} {base : Nat} {held : Bool}
theorem open_urow {n : Nat} {v : Value} {x : DataW H × List MemPlace} (h : DataW.trod enc Try.prog W base (fun _ => true) held n 59 [v] = some x) :
    ∃ A m c z, v = .slice A m c ∧ m ≤ c ∧ c ≤ maxLen ∧ Ints .u64 W A m z := by
  rcases open_ints Try.underlying59 Try.underlying48 (by kernel_rfl) h with ⟨hcs, _⟩ | ⟨a, len, cap, zs, hcs, _, hl, hm, hz, _, hcell, hw⟩
  · simp at hcs
    exact ⟨none, 0, 0, [], hcs, Nat.le_refl _, Nat.zero_le _, rfl, by simp, fun h => absurd h (by omega)⟩
  · simp at hcs
    simp only [if_true] at hz
    refine ⟨some a, len, cap, zs.take len, hcs, hl, hm, by rw [List.length_take]; omega, fun z hz' => hw z (List.mem_of_mem_take hz'), fun hn => ?_⟩
    obtain ⟨b, off, rfl, hc'⟩ := ints_at hcell (by omega)
    refine ⟨b, off, rfl, World.block_lt_of_cell? _ _ (hc' 0 (by omega)), fun i hi => ?_⟩
    rw [hc' i (by omega)]
    congr 2
    simp [hi]
theorem open_img {b0 : Nat} {v : Value} {d : DataW H} {ps : List MemPlace} (hval : Value.okWide Try.prog W .any b0 61 v) (hd : DataW.Trod enc Try.prog W base (fun _ => true) held 61 v d ps) :
    ∃ (A0 A1 A2 A3 A4 : Option Addr) (n0 n1 n2 n3 n4 c0 c1 c2 c3 c4 : Nat) (c t s : Int) (z3 z4 : List Int), v = imgV (.slice A0 n0 c0) (.slice A1 n1 c1) c t s (.slice A2 n2 c2) (.slice A3 n3 c3) (.slice A4 n4 c4) ∧ Ints .u64 W A3 n3 z3 ∧ Ints .u64 W A4 n4 z4 := by
  obtain ⟨cs, rfl, hs⟩ := okWide_struct Try.underlying61 hval
  obtain ⟨fuel, hf⟩ := hd
  obtain ⟨xs, m, _, _, hl, hxl, hg⟩ := DataW.trod_struct Try.underlying61 hf
  have hc : Try.prog.cellsOf 61 = 8 := by kernel_rfl
  have hci : Try.prog.cellsOf 48 = 1 := by kernel_rfl
  have hcr : Try.prog.cellsOf 59 = 1 := by kernel_rfl
  obtain ⟨l⟩ := cs
  simp only [Value.cells] at hl hg
  rw [hc] at hl
  match l, hl with
  | [c0, c1, c2, c3, c4, c5, c6, c7], _ =>
  match xs, hxl with
  | [y0, y1, y2, y3, y4, y5, y6, y7], _ =>
    have g0 := hg 0 _ rfl
    have g1 := hg 1 _ rfl
    have g2 := hg 2 _ rfl
    have g3 := hg 3 _ rfl
    have g4 := hg 4 _ rfl
    have g5 := hg 5 _ rfl
    have g6 := hg 6 _ rfl
    have g7 := hg 7 _ rfl
    simp [hci, hcr] at g0 g1 g2 g3 g4 g5 g6 g7
    obtain ⟨a0, m0, k0, z0, rfl, _, _, _⟩ := open_urow g0
    obtain ⟨a1, m1, k1, z1, rfl, _, _, _⟩ := open_urow g1
    obtain ⟨z2, e2, _, w2⟩ := DataW.trod_int Try.underlying48 g2
    obtain ⟨z3, e3, _, w3⟩ := DataW.trod_int Try.underlying48 g3
    obtain ⟨z4, e4, _, w4⟩ := DataW.trod_int Try.underlying48 g4
    obtain ⟨a5, m5, k5, z5, rfl, _, _, _⟩ := open_urow g5
    obtain ⟨a6, m6, k6, z6, rfl, _, _, h6⟩ := open_urow g6
    obtain ⟨a7, m7, k7, z7, rfl, _, _, h7⟩ := open_urow g7
    simp at e2 e3 e4
    subst e2 e3 e4
    exact ⟨a0, a1, a5, a6, a7, m0, m1, m5, m6, m7, k0, k1, k5, k6, k7, z2, z3, z4, z6, z7, rfl, h6, h7⟩
end
end Go.Proofs.Ytpnkjdamgkaonaa.FreO
