/-
  A script that came in as an argument; a script that a call has made: each holds a script.
-/
import Derived.Test.YtafidppjabdecaaCodeP
import Derived.Deep.Slices
import Derived.OpenShut
import Derived.Test.YtafidppjabdecaaCodeO
import Derived.Test.YtafidppjabdecaaCodeD
namespace Go.Proofs.Ytafidppjabdecaa.CodeT
open Go.ChangeShapes Go.WideShapes Go.ChangeAt Go.RowKit
open PlainT BlkW LawFrame CodeS CodeW CodeA CodeP CodeO CodeI CodeH CodeD
open CodeJ (PV)
open CodeM (IsV)
set_option linter.unusedVariables false
set_option maxHeartbeats 1000000

section
variable {H : Type} {enc : TypeId × Value → H} {W : World} {base : Nat} {sp : Nat → Bool} {held : Bool}
theorem five_cells {n : Nat} {cs : List Value} {x : DataW H × List MemPlace} (h : DataW.trod enc Try.prog W base sp held n 75 cs = some x) : ∃ q : List Int, InsOk q ∧ cs = q.map (Value.int .i64) := by
  obtain ⟨xs, m, _, _, hl, hxl, hg⟩ := DataW.trod_struct Try.underlying75 h
  have hc : Try.prog.cellsOf 75 = 5 := by kernel_rfl
  have hci : Try.prog.cellsOf 3 = 1 := by kernel_rfl
  rw [hc] at hl
  match cs, hl with
  | [a, b, c, d, e], _ =>
  match xs, hxl with
  | [y0, y1, y2, y3, y4], _ =>
    have g0 := hg 0 _ rfl
    have g1 := hg 1 _ rfl
    have g2 := hg 2 _ rfl
    have g3 := hg 3 _ rfl
    have g4 := hg 4 _ rfl
    simp only [hci, List.getElem?_cons_zero, List.getElem?_cons_succ] at g0 g1 g2 g3 g4
    obtain ⟨z0, e0, _, w0⟩ := DataW.trod_int Try.underlying3 g0
    obtain ⟨z1, e1, _, w1⟩ := DataW.trod_int Try.underlying3 g1
    obtain ⟨z2, e2, _, w2⟩ := DataW.trod_int Try.underlying3 g2
    obtain ⟨z3, e3, _, w3⟩ := DataW.trod_int Try.underlying3 g3
    obtain ⟨z4, e4, _, w4⟩ := DataW.trod_int Try.underlying3 g4
    simp [hci] at e0 e1 e2 e3 e4
    subst e0 e1 e2 e3 e4
    exact ⟨[z0, z1, z2, z3, z4], ⟨rfl, by simp; exact ⟨wf_i64 w0, wf_i64 w1, wf_i64 w2, wf_i64 w3, wf_i64 w4⟩⟩, rfl⟩
theorem open_prow {n : Nat} {v : Value} {x : DataW H × List MemPlace} (h : DataW.trod enc Try.prog W base (fun _ => true) held n 53 [v] = some x) :
    ∃ A k c p, v = .slice A k c ∧ k ≤ c ∧ c ≤ maxLen ∧ PRow W A k p ∧ (0 < k → ∀ a, A = some a → a.block < W.heap.size) := by
  have hc : Try.prog.cellsOf 75 = 5 := by kernel_rfl
  rcases Go.Deep.open_slice Try.underlying53 h with ⟨hcs, _⟩ | ⟨a, len, cap, m, n', D, Pl, hcs, hb, hl, hm, hmm, hx, hi⟩
  · simp at hcs
    exact ⟨none, 0, 0, [], hcs, Nat.le_refl _, Nat.zero_le _, ⟨rfl, by simp, fun h => absurd h (by omega)⟩, fun h => absurd h (by omega)⟩
  · simp at hcs
    simp only [if_true] at hmm
    have hmm' := hmm.symm
    subst hmm'
    rw [hc] at hi
    have each : ∀ i, i < cap → ∃ q : List Int, InsOk q ∧ ∀ j, j < 5 → W.cell? ((a.add (i * 5)).add j) = some (.int .i64 (q.getD j 0)) := by
      intro i hic
      obtain ⟨cs', h1, h2⟩ := hi i hic
      obtain ⟨q, hq, rfl⟩ := five_cells h2
      obtain ⟨_, _, h3⟩ := World.cells?_some h1
      refine ⟨q, hq, fun j hj => ?_⟩
      have hq5 := hq.1
      rw [h3 j hj, List.getElem?_map, List.getElem?_eq_getElem (by omega), List.getD_eq_getElem?_getD, List.getElem?_eq_getElem (by omega)]
      rfl
    obtain ⟨f, hf⟩ := Go.Deep.choose_lt each
    have hplain : 0 < len → a.spot = none := fun h0 => by
      have := World.cell?_spot ((hf 0 (by omega)).2 0 (by omega))
      simpa [Addr.add] using this
    refine ⟨some a, len, cap, (List.range len).map f, hcs, hl, hm, ⟨by simp, fun q hq => ?_, fun h0 => ?_⟩, fun h0 a' ha' => ?_⟩
    · obtain ⟨i, hi', rfl⟩ := List.mem_map.1 hq
      exact (hf i (by have := List.mem_range.1 hi'; omega)).1
    · have hsp := hplain h0
      obtain ⟨b, off, spot⟩ := a
      simp only at hsp
      subst hsp
      have hz : ∀ i j, i < len → j < 5 → W.cell? ⟨b, off + i * 5 + j, none⟩ = some (.int .i64 ((((List.range len).map f).getD i []).getD j 0)) := by
        intro i j hi' hj
        have := (hf i (by omega)).2 j hj
        rw [Go.WideShapes.add_plain, Go.WideShapes.add_plain] at this
        rw [this, List.getD_eq_getElem?_getD (l := (List.range len).map f), List.getElem?_map, List.getElem?_eq_getElem (by simpa using hi')]
        simp
      exact ⟨b, off, rfl, World.block_lt_of_cell? _ _ (hz 0 0 h0 (by omega)), hz⟩
    · cases ha'
      have hsp := hplain h0
      have h1 := (hf 0 (by omega)).2 0 (by omega)
      obtain ⟨b, off, spot⟩ := a
      simp only at hsp
      subst hsp
      rw [Go.WideShapes.add_plain, Go.WideShapes.add_plain] at h1
      exact World.block_lt_of_cell? _ _ h1
theorem open_pprow {n : Nat} {v : Value} {x : DataW H × List MemPlace} (h : DataW.trod enc Try.prog W base (fun _ => true) held n 26 [v] = some x) :
    ∃ A k c ps, v = .slice A k c ∧ k ≤ c ∧ c ≤ maxLen ∧ PPRow W W.heap.size A k ps := by
  have hc : Try.prog.cellsOf 53 = 1 := by kernel_rfl
  rcases Go.Deep.open_slice1 Try.underlying26 hc h with ⟨hcs, _⟩ | ⟨a, len, cap, m, n', V, D, Pl, hcs, hb, hl, hm, hmm, hx, hi⟩
  · simp at hcs
    exact ⟨none, 0, 0, [], hcs, Nat.le_refl _, Nat.zero_le _, ⟨rfl, fun h => absurd h (by omega)⟩⟩
  · simp at hcs
    simp only [if_true] at hmm
    have hmm' := hmm.symm
    subst hmm'
    have each : ∀ i, i < cap → ∃ p : List (List Int), ∃ Ai ni ci, W.cell? (a.add i) = some (.slice Ai ni ci) ∧ ni ≤ ci ∧ ci ≤ maxLen ∧ PRow W Ai ni p ∧ (0 < ni → ∀ a, Ai = some a → a.block < W.heap.size) := by
      intro i hic
      obtain ⟨h1, h2⟩ := hi i hic
      obtain ⟨A, k, c, p, hv, h3⟩ := open_prow h2
      exact ⟨p, A, k, c, hv ▸ h1, h3⟩
    obtain ⟨f, hf⟩ := Go.Deep.choose_lt each
    refine ⟨some a, len, cap, (List.range len).map f, hcs, hl, hm, by simp, fun h0 => ?_⟩
    obtain ⟨A0, n0, c0, h1, _⟩ := hf 0 (by omega)
    have hsp : a.spot = none := by
      have := World.cell?_spot h1
      simpa [Addr.add] using this
    obtain ⟨b, off, spot⟩ := a
    simp only at hsp
    subst hsp
    rw [Go.WideShapes.add_plain] at h1
    have hb' := World.block_lt_of_cell? _ _ h1
    refine ⟨b, off, rfl, hb', hb', fun i hi' => ?_⟩
    obtain ⟨Ai, ni, ci, h2, h3, h4, h5, h6⟩ := hf i (by omega)
    rw [Go.WideShapes.add_plain] at h2
    refine ⟨Ai, ni, ci, h2, h3, h4, ?_, h6⟩
    rw [List.getD_eq_getElem?_getD (l := (List.range len).map f), List.getElem?_map, List.getElem?_eq_getElem (by simpa using hi')]
    simpa using h5
theorem open_irow {k : IntKind} {t e : TypeId} {n : Nat} {v : Value} {x : DataW H × List MemPlace} (ht : Try.prog.underlying t = some (.slice e)) (he : Try.prog.underlying e = some (.int k)) (hc : Try.prog.cellsOf e = 1) (h : DataW.trod enc Try.prog W base (fun _ => true) held n t [v] = some x) :
    ∃ A m c z, v = .slice A m c ∧ m ≤ c ∧ c ≤ maxLen ∧ Ints k W A m z := by
  rcases open_ints ht he hc h with ⟨hcs, _⟩ | ⟨a, len, cap, zs, hcs, _, hl, hm, hz, _, hcell, hw⟩
  · simp at hcs
    exact ⟨none, 0, 0, [], hcs, Nat.le_refl _, Nat.zero_le _, rfl, by simp, fun h => absurd h (by omega)⟩
  · simp at hcs
    simp only [if_true] at hz
    refine ⟨some a, len, cap, zs.take len, hcs, hl, hm, by rw [List.length_take]; omega, fun z hz' => hw z (List.mem_of_mem_take hz'), fun hn => ?_⟩
    obtain ⟨b, off, rfl, hc'⟩ := ints_at hcell (by omega)
    refine ⟨b, off, rfl, World.block_lt_of_cell? _ _ (hc' 0 (by omega)), fun i hi => ?_⟩
    rw [hc' i (by omega)]
    congr 2
    simp [hi]
end
section
variable {H : Type} {enc : TypeId × Value → H} {W : World} {base : Nat} {held : Bool}
theorem open_cfg {sp : Nat → Bool} {n : Nat} {cs : List Value} {x : DataW H × List MemPlace} (h : DataW.trod enc Try.prog W base sp held n 24 cs = some x) :
    ∃ (q : List Int) (s : Bool), q.length = 12 ∧ (∀ x ∈ q, InI x) ∧ cs = q.map (Value.int .i64) ++ [.bool s] := by
  obtain ⟨xs, m, _, _, hl, hxl, hg⟩ := DataW.trod_struct Try.underlying24 h
  have hc : Try.prog.cellsOf 24 = 13 := by kernel_rfl
  have hci : Try.prog.cellsOf 3 = 1 := by kernel_rfl
  have hcb : Try.prog.cellsOf 4 = 1 := by kernel_rfl
  have hca : Try.prog.cellsOf 22 = 4 := by kernel_rfl
  rw [hc] at hl
  match cs, hl with
  | [c0, c1, c2, c3, c4, c5, c6, c7, c8, c9, c10, c11, c12], _ =>
  match xs, hxl with
  | [y0, y1, y2, y3, y4, y5, y6, y7, y8, y9], _ =>
    have g0 := hg 0 _ rfl
    have g1 := hg 1 _ rfl
    have g2 := hg 2 _ rfl
    have g3 := hg 3 _ rfl
    have g4 := hg 4 _ rfl
    have g5 := hg 5 _ rfl
    have g6 := hg 6 _ rfl
    have g7 := hg 7 _ rfl
    have g8 := hg 8 _ rfl
    have g9 := hg 9 _ rfl
    simp only [List.getElem?_cons_zero, List.getElem?_cons_succ] at g0 g1 g2 g3 g4 g5 g6 g7 g8 g9
    obtain ⟨z0, e0, _, w0⟩ := DataW.trod_int Try.underlying3 g0
    obtain ⟨z1, e1, _, w1⟩ := DataW.trod_int Try.underlying3 g1
    obtain ⟨z2, e2, _, w2⟩ := DataW.trod_int Try.underlying3 g2
    obtain ⟨z7, e7, _, w7⟩ := DataW.trod_int Try.underlying3 g4
    obtain ⟨z8, e8, _, w8⟩ := DataW.trod_int Try.underlying3 g5
    obtain ⟨z9, e9, _, w9⟩ := DataW.trod_int Try.underlying3 g6
    obtain ⟨z10, e10, _, w10⟩ := DataW.trod_int Try.underlying3 g7
    obtain ⟨z11, e11, _, w11⟩ := DataW.trod_int Try.underlying3 g8
    obtain ⟨b, eb, _⟩ := DataW.trod_bool Try.underlying4 g9
    obtain ⟨us, m3, _, _, hl3, hul, hu⟩ := DataW.trod_array Try.underlying22 g3
    match us, hul with
    | [u0, u1, u2, u3], _ =>
    have k0 := hu 0 (by omega)
    have k1 := hu 1 (by omega)
    have k2 := hu 2 (by omega)
    have k3 := hu 3 (by omega)
    simp only [List.getElem?_cons_zero, List.getElem?_cons_succ] at k0 k1 k2 k3
    obtain ⟨z3, e3, _, w3⟩ := DataW.trod_int Try.underlying3 k0
    obtain ⟨z4, e4, _, w4⟩ := DataW.trod_int Try.underlying3 k1
    obtain ⟨z5, e5, _, w5⟩ := DataW.trod_int Try.underlying3 k2
    obtain ⟨z6, e6, _, w6⟩ := DataW.trod_int Try.underlying3 k3
    simp [hci, hca, hcb] at e0 e1 e2 e3 e4 e5 e6 e7 e8 e9 e10 e11 eb
    subst e0 e1 e2 e3 e4 e5 e6 e7 e8 e9 e10 e11 eb
    exact ⟨[z0, z1, z2, z3, z4, z5, z6, z7, z8, z9, z10, z11], b, rfl, by simp; exact ⟨wf_i64 w0, wf_i64 w1, wf_i64 w2, wf_i64 w3, wf_i64 w4, wf_i64 w5, wf_i64 w6, wf_i64 w7, wf_i64 w8, wf_i64 w9, wf_i64 w10, wf_i64 w11⟩, rfl⟩
theorem open_script {b0 : Nat} {v : Value} {d : DataW H} {ps : List MemPlace} (hval : Value.okWide Try.prog W .any b0 29 v) (hd : DataW.Trod enc Try.prog W base (fun _ => true) held 29 v d ps) :
    ∃ s, Holds W W.heap.size s v := by
  obtain ⟨cs, rfl, hs⟩ := okWide_struct Try.underlying29 hval
  obtain ⟨fuel, hf⟩ := hd
  obtain ⟨xs, m, _, _, hl, hxl, hg⟩ := DataW.trod_struct Try.underlying29 hf
  have hc : Try.prog.cellsOf 29 = 16 := by kernel_rfl
  have h1 : Try.prog.cellsOf 24 = 13 := by kernel_rfl
  have h2 : Try.prog.cellsOf 25 = 1 := by kernel_rfl
  have h3 : Try.prog.cellsOf 26 = 1 := by kernel_rfl
  have h4 : Try.prog.cellsOf 27 = 1 := by kernel_rfl
  rw [hc] at hs
  obtain ⟨l⟩ := cs
  match l, hs with
  | [c0, c1, c2, c3, c4, c5, c6, c7, c8, c9, c10, c11, c12, c13, c14, c15], _ =>
  match xs, hxl with
  | [y0, y1, y2, y3], _ =>
    have g0 := hg 0 _ rfl
    have g1 := hg 1 _ rfl
    have g2 := hg 2 _ rfl
    have g3 := hg 3 _ rfl
    simp only [List.getElem?_cons_zero, List.getElem?_cons_succ] at g0 g1 g2 g3
    obtain ⟨q, s, hq, hqi, e0⟩ := open_cfg g0
    simp [h1, Value.cells] at e0
    simp [h2, Value.cells] at g1
    simp [h3, Value.cells] at g2
    simp [h4, Value.cells] at g3
    obtain ⟨Ai, ni, ci, zi, rfl, i1, i2, i3⟩ := open_irow Try.underlying25 Try.underlying46 (by kernel_rfl) g1
    obtain ⟨Ap, np, cp, zp, rfl, p1, p2, p3⟩ := open_pprow g2
    obtain ⟨Ak, nk, ck, zk, rfl, k1, k2, k3⟩ := open_irow Try.underlying27 Try.underlying3 (by kernel_rfl) g3
    match q, hq with
    | [x0, x1, x2, x3, x4, x5, x6, x7, x8, x9, x10, x11], _ =>
      simp at e0
      obtain ⟨rfl, rfl, rfl, rfl, rfl, rfl, rfl, rfl, rfl, rfl, rfl, rfl, rfl⟩ := e0
      exact ⟨⟨[x0, x1, x2, x3, x4, x5, x6, x7, x8, x9, x10, x11], s, zi, zp, zk⟩, x0, x1, x2, x3, x4, x5, x6, x7, x8, x9, x10, x11, Ai, ni, ci, Ap, np, cp, Ak, nk, ck, rfl, rfl, hqi, ⟨i1, i2, i3⟩, ⟨p1, p2, p3⟩, ⟨k1, k2, k3⟩⟩
end
end Go.Proofs.Ytafidppjabdecaa.CodeT
