/-
  Scripts: what a value of type Script holds; a script that came in as an argument.
-/
import Derived.Test.YthnhmclnfgkppaaDoorPgE
import Derived.Test.YthnhmclnfgkppaaDoorLayB
import Derived.Deep.Slices
import Derived.OpenShut
namespace Go.Proofs.YthnhmclnfgkppaaDoor.ScrP
open Go.ChangeShapes Go.WideShapes Go.ChangeAt Go.RowKit
open PlainT BlkW LawFrame IsaF PrgS LayS LayA
set_option linter.unusedVariables false
set_option maxHeartbeats 1000000
set_option maxRecDepth 100000

instance : Inhabited I5 := ⟨⟨0, 0, 0, 0, 0⟩⟩

structure Scr where
  q : Cfg
  ni : Nat
  progs : List (List I5)
  picks : List Int
/-- A row of rows of instructions. -/
def RowP (w : World) (A : Option Addr) (n : Nat) (ps : List (List I5)) : Prop :=
  ps.length = n ∧ (0 < n → ∃ b off : Nat, A = some ⟨b, off, none⟩ ∧ b < w.heap.size ∧ ∀ i, i < n → ∃ Ai ni ci, w.cell? ⟨b, off + i, none⟩ = some (.slice Ai ni ci) ∧ ni ≤ ci ∧ ci ≤ maxLen ∧ RowI w Ai ni (ps.getD i []) ∧ (∀ x ∈ ps.getD i [], OkI x))
theorem RowP.old {w w' : World} {A : Option Addr} {n : Nat} {ps : List (List I5)} (h : RowP w A n ps) (k : Old w w') : RowP w' A n ps := by
  refine ⟨h.1, fun hn => ?_⟩
  obtain ⟨b, off, rfl, hb, hc⟩ := h.2 hn
  refine ⟨b, off, rfl, Nat.lt_of_lt_of_le hb k.1, fun i hi => ?_⟩
  obtain ⟨Ai, ni, ci, h1, h2, h3, h4, h5⟩ := hc i hi
  exact ⟨Ai, ni, ci, by rw [World.cell?_of_block (w := w) (k.2 b hb)]; exact h1, h2, h3, h4.old k, h5⟩
theorem RowP.below {w w' : World} {A : Option Addr} {n : Nat} {ps : List (List I5)} (h : RowP w A n ps) (k : Below w.heap.size w w') : RowP w' A n ps := h.old (.of_below k)
theorem RowP.at {w : World} {A : Option Addr} {n : Nat} {ps : List (List I5)} (h : RowP w A n ps) {i : Nat} (hi : i < n) : ∃ b off p Ai ni ci, A = some ⟨b, off, none⟩ ∧ b < w.heap.size ∧ ps[i]? = some p ∧ w.cell? ⟨b, off + i, none⟩ = some (.slice Ai ni ci) ∧ ni ≤ ci ∧ ci ≤ maxLen ∧ RowI w Ai ni p ∧ (∀ x ∈ p, OkI x) := by
  obtain ⟨b, off, rfl, hb, hc⟩ := h.2 (by omega)
  obtain ⟨Ai, ni, ci, h1, h2, h3, h4, h5⟩ := hc i hi
  have hz : ps[i]? = some (ps[i]'(by rw [h.1]; exact hi)) := List.getElem?_eq_getElem _
  have hg : ps.getD i [] = ps[i]'(by rw [h.1]; exact hi) := by rw [List.getD_eq_getElem?_getD, hz]; rfl
  rw [hg] at h4 h5
  exact ⟨b, off, _, Ai, ni, ci, rfl, hb, hz, h1, h2, h3, h4, h5⟩
theorem ints_old {k : IntKind} {w w' : World} {A : Option Addr} {n : Nat} {z : List Int} (h : Ints k w A n z) (o : Old w w') : Ints k w' A n z := by
  refine ⟨h.1, h.2.1, fun hn => ?_⟩
  obtain ⟨b, off, rfl, hb, hc⟩ := h.2.2 hn
  exact ⟨b, off, rfl, Nat.lt_of_lt_of_le hb o.1, fun i hi => by rw [World.cell?_of_block (w := w) (o.2 b hb)]; exact hc i hi⟩
abbrev TS : TypeId := 50
abbrev scells (q : Cfg) (a b c : Value) : Array Value := #[.int .i64 q.w, .int .i64 q.o, .int .i64 q.b, .int .i64 q.c0, .int .i64 q.c1, .int .i64 q.c2, .int .i64 q.c3, .int .i64 q.r, .int .i64 q.t, .int .i64 q.a, .int .i64 q.f, .int .i64 q.k, .bool q.s, a, b, c]
abbrev scrV (q : Cfg) (a b c : Value) : Value := .agg #[.int .i64 q.w, .int .i64 q.o, .int .i64 q.b, .int .i64 q.c0, .int .i64 q.c1, .int .i64 q.c2, .int .i64 q.c3, .int .i64 q.r, .int .i64 q.t, .int .i64 q.a, .int .i64 q.f, .int .i64 q.k, .bool q.s, a, b, c]
theorem sbox_cells {w : World} {g : Nat} {q : Cfg} {a b c : Value} (h : Mem w g TS (scells q a b c)) :
    w.cell? ⟨g, 0, none⟩ = some (.int .i64 q.w) ∧ w.cell? ⟨g, 1, none⟩ = some (.int .i64 q.o) ∧ w.cell? ⟨g, 2, none⟩ = some (.int .i64 q.b) ∧ w.cell? ⟨g, 3, none⟩ = some (.int .i64 q.c0) ∧ w.cell? ⟨g, 4, none⟩ = some (.int .i64 q.c1) ∧ w.cell? ⟨g, 5, none⟩ = some (.int .i64 q.c2) ∧ w.cell? ⟨g, 6, none⟩ = some (.int .i64 q.c3) ∧
    w.cell? ⟨g, 7, none⟩ = some (.int .i64 q.r) ∧ w.cell? ⟨g, 8, none⟩ = some (.int .i64 q.t) ∧ w.cell? ⟨g, 9, none⟩ = some (.int .i64 q.a) ∧ w.cell? ⟨g, 10, none⟩ = some (.int .i64 q.f) ∧ w.cell? ⟨g, 11, none⟩ = some (.int .i64 q.k) ∧ w.cell? ⟨g, 12, none⟩ = some (.bool q.s) ∧
    w.cell? ⟨g, 13, none⟩ = some a ∧ w.cell? ⟨g, 14, none⟩ = some b ∧ w.cell? ⟨g, 15, none⟩ = some c :=
  ⟨h.cell 0, h.cell 1, h.cell 2, h.cell 3, h.cell 4, h.cell 5, h.cell 6, h.cell 7, h.cell 8, h.cell 9, h.cell 10, h.cell 11, h.cell 12, h.cell 13, h.cell 14, h.cell 15⟩
/-- The value holds the script. -/
structure Holds (w : World) (s : Scr) (Ai : Option Addr) (ci : Nat) (Ap : Option Addr) (np cp : Nat) (Ak : Option Addr) (nk ck : Nat) : Prop where
  hi : s.ni ≤ ci ∧ ci ≤ maxLen
  hp : np ≤ cp ∧ cp ≤ maxLen
  hk : nk ≤ ck ∧ ck ≤ maxLen
  rp : RowP w Ap np s.progs
  rk : Ints .i64 w Ak nk s.picks
theorem Holds.old {w w' : World} {s : Scr} {Ai : Option Addr} {ci : Nat} {Ap : Option Addr} {np cp : Nat} {Ak : Option Addr} {nk ck : Nat} (h : Holds w s Ai ci Ap np cp Ak nk ck) (k : Old w w') : Holds w' s Ai ci Ap np cp Ak nk ck :=
  ⟨h.hi, h.hp, h.hk, h.rp.old k, ints_old h.rk k⟩

section
variable {H : Type} {enc : TypeId × Value → H} {W : World} {base : Nat} {sp : Nat → Bool} {held : Bool}
theorem five_cells {n : Nat} {cs : List Value} {x : DataW H × List MemPlace} (h : DataW.trod enc Tryd.prog W base sp held n 31 cs = some x) : ∃ x : I5, OkI x ∧ cs = [.int .i64 x.op, .int .i64 x.a, .int .i64 x.b, .int .i64 x.c, .int .i64 x.i] := by
  obtain ⟨xs, m, _, _, hl, hxl, hg⟩ := DataW.trod_struct Tryd.underlying31 h
  have hc : Tryd.prog.cellsOf 31 = 5 := by kernel_rfl
  have hci : Tryd.prog.cellsOf 3 = 1 := by kernel_rfl
  rw [hc] at hl
  match cs, hl with
  | [a, b, c, d, e], _ =>
  match xs, hxl with
  | [y0, y1, y2, y3, y4], _ =>
    have g0 := hg 0 _ rfl
    have g1 := hg 1 _ rfl
    have g2 := hg 2 _ rfl
    have g3 := hg 3 _ rfl
    have g4 := hg 4 _ rfl
    simp only [List.getElem?_cons_zero, List.getElem?_cons_succ] at g0 g1 g2 g3 g4
    obtain ⟨z0, e0, _, w0⟩ := DataW.trod_int Tryd.underlying3 g0
    obtain ⟨z1, e1, _, w1⟩ := DataW.trod_int Tryd.underlying3 g1
    obtain ⟨z2, e2, _, w2⟩ := DataW.trod_int Tryd.underlying3 g2
    obtain ⟨z3, e3, _, w3⟩ := DataW.trod_int Tryd.underlying3 g3
    obtain ⟨z4, e4, _, w4⟩ := DataW.trod_int Tryd.underlying3 g4
    simp [hci] at e0 e1 e2 e3 e4
    subst e0 e1 e2 e3 e4
    exact ⟨⟨z0, z1, z2, z3, z4⟩, ⟨bounds_i64 w0, bounds_i64 w1, bounds_i64 w2, bounds_i64 w3, bounds_i64 w4⟩, rfl⟩
theorem open_prow {n : Nat} {v : Value} {x : DataW H × List MemPlace} (h : DataW.trod enc Tryd.prog W base (fun _ => true) held n 24 [v] = some x) :
    ∃ A k c p, v = .slice A k c ∧ k ≤ c ∧ c ≤ maxLen ∧ RowI W A k p ∧ (∀ x ∈ p, OkI x) := by
  have hc : Tryd.prog.cellsOf 31 = 5 := by kernel_rfl
  rcases Go.Deep.open_slice Tryd.underlying24 h with ⟨hcs, _⟩ | ⟨a, len, cap, m, n', D, Pl, hcs, hb, hl, hm, hmm, hx, hi⟩
  · simp at hcs
    exact ⟨none, 0, 0, [], hcs, Nat.le_refl _, Nat.zero_le _, ⟨rfl, fun h => absurd h (by omega)⟩, fun x hx => by cases hx⟩
  · simp at hcs
    simp only [if_true] at hmm
    have hmm' := hmm.symm
    subst hmm'
    rw [hc] at hi
    have each : ∀ i, i < cap → ∃ q : I5, OkI q ∧ W.cell? (a.add (i * 5)) = some (.int .i64 q.op) ∧ W.cell? ((a.add (i * 5)).add 1) = some (.int .i64 q.a) ∧ W.cell? ((a.add (i * 5)).add 2) = some (.int .i64 q.b) ∧ W.cell? ((a.add (i * 5)).add 3) = some (.int .i64 q.c) ∧ W.cell? ((a.add (i * 5)).add 4) = some (.int .i64 q.i) := by
      intro i hic
      obtain ⟨cs', h1, h2⟩ := hi i hic
      obtain ⟨q, hq, rfl⟩ := five_cells h2
      obtain ⟨_, _, h3⟩ := World.cells?_some h1
      have k0 := h3 0 (by omega)
      have k1 := h3 1 (by omega)
      have k2 := h3 2 (by omega)
      have k3 := h3 3 (by omega)
      have k4 := h3 4 (by omega)
      refine ⟨q, hq, ?_, ?_, ?_, ?_, ?_⟩
      · simpa [Addr.add] using k0
      · simpa using k1
      · simpa using k2
      · simpa using k3
      · simpa using k4
    obtain ⟨f, hf⟩ := Go.Deep.choose_lt each
    refine ⟨some a, len, cap, (List.range len).map f, hcs, hl, hm, ⟨by simp, fun h0 => ?_⟩, fun q hq => ?_⟩
    · have hsp : a.spot = none := by
        have := World.cell?_spot (hf 0 (by omega)).2.1
        simpa [Addr.add] using this
      obtain ⟨b, off, spot⟩ := a
      simp only at hsp
      subst hsp
      have h00 := (hf 0 (by omega)).2.1
      rw [Go.WideShapes.add_plain] at h00
      refine ⟨b, off, rfl, World.block_lt_of_cell? _ _ h00, fun k hk => ?_⟩
      have hk' : k < len := by simpa using hk
      obtain ⟨_, e0, e1, e2, e3, e4⟩ := hf k (by omega)
      rw [Go.WideShapes.add_plain] at e0
      rw [Go.WideShapes.add_plain, Go.WideShapes.add_plain] at e1 e2 e3 e4
      simp only [List.getElem_map, List.getElem_range]
      exact ⟨e0, e1, e2, e3, e4⟩
    · obtain ⟨i, hi', rfl⟩ := List.mem_map.1 hq
      exact (hf i (by have := List.mem_range.1 hi'; omega)).1
theorem open_pprow {n : Nat} {v : Value} {x : DataW H × List MemPlace} (h : DataW.trod enc Tryd.prog W base (fun _ => true) held n 48 [v] = some x) :
    ∃ A k c ps, v = .slice A k c ∧ k ≤ c ∧ c ≤ maxLen ∧ RowP W A k ps := by
  have hc : Tryd.prog.cellsOf 24 = 1 := by kernel_rfl
  rcases Go.Deep.open_slice1 Tryd.underlying48 hc h with ⟨hcs, _⟩ | ⟨a, len, cap, m, n', V, D, Pl, hcs, hb, hl, hm, hmm, hx, hi⟩
  · simp at hcs
    exact ⟨none, 0, 0, [], hcs, Nat.le_refl _, Nat.zero_le _, ⟨rfl, fun h => absurd h (by omega)⟩⟩
  · simp at hcs
    simp only [if_true] at hmm
    have hmm' := hmm.symm
    subst hmm'
    have each : ∀ i, i < cap → ∃ p : List I5, ∃ Ai ni ci, W.cell? (a.add i) = some (.slice Ai ni ci) ∧ ni ≤ ci ∧ ci ≤ maxLen ∧ RowI W Ai ni p ∧ (∀ x ∈ p, OkI x) := by
      intro i hic
      obtain ⟨h1, h2⟩ := hi i hic
      obtain ⟨A, k, c, p, hv, h3⟩ := open_prow h2
      exact ⟨p, A, k, c, hv ▸ h1, h3⟩
    obtain ⟨f, hf⟩ := Go.Deep.choose_lt each
    refine ⟨some a, len, cap, (List.range len).map f, hcs, hl, hm, by simp, fun h0 => ?_⟩
    obtain ⟨A0, n0, c0, h1, _⟩ := hf 0 (by omega)
    have hsp : a.spot = none := by
      have := World.cell?_spot h1
      simpa [Addr.add] using this
    obtain ⟨b, off, spot⟩ := a
    simp only at hsp
    subst hsp
    rw [Go.WideShapes.add_plain] at h1
    refine ⟨b, off, rfl, World.block_lt_of_cell? _ _ h1, fun i hi' => ?_⟩
    obtain ⟨Ai, ni, ci, h2, h3, h4, h5, h6⟩ := hf i (by omega)
    rw [Go.WideShapes.add_plain] at h2
    have e : ((List.range len).map f).getD i [] = f i := by rw [List.getD_eq_getElem?_getD (l := (List.range len).map f), List.getElem?_map, List.getElem?_eq_getElem (by simpa using hi')]; simp
    rw [e]
    exact ⟨Ai, ni, ci, h2, h3, h4, h5, h6⟩
theorem open_irow {k : IntKind} {t e : TypeId} {n : Nat} {v : Value} {x : DataW H × List MemPlace} (ht : Tryd.prog.underlying t = some (.slice e)) (he : Tryd.prog.underlying e = some (.int k)) (hc : Tryd.prog.cellsOf e = 1) (h : DataW.trod enc Tryd.prog W base (fun _ => true) held n t [v] = some x) :
    ∃ A m c z, v = .slice A m c ∧ m ≤ c ∧ c ≤ maxLen ∧ Ints k W A m z := by
  rcases open_ints ht he hc h with ⟨hcs, _⟩ | ⟨a, len, cap, zs, hcs, _, hl, hm, hz, _, hcell, hw⟩
  · simp at hcs
    exact ⟨none, 0, 0, [], hcs, Nat.le_refl _, Nat.zero_le _, rfl, by simp, fun h => absurd h (by omega)⟩
  · simp at hcs
    simp only [if_true] at hz
    refine ⟨some a, len, cap, zs.take len, hcs, hl, hm, by rw [List.length_take]; omega, fun z hz' => hw z (List.mem_of_mem_take hz'), fun hn => ?_⟩
    obtain ⟨b, off, rfl, hc'⟩ := ints_at hcell (by omega)
    refine ⟨b, off, rfl, World.block_lt_of_cell? _ _ (hc' 0 (by omega)), fun i hi => ?_⟩
    rw [hc' i (by omega)]
    congr 2
    simp [hi]
end
section
variable {H : Type} {enc : TypeId × Value → H} {W : World} {base : Nat} {held : Bool}
theorem open_cfg {sp : Nat → Bool} {n : Nat} {cs : List Value} {x : DataW H × List MemPlace} (h : DataW.trod enc Tryd.prog W base sp held n TC cs = some x) :
    ∃ q : Cfg, cs = (cells q).toList := by
  obtain ⟨xs, m, _, _, hl, hxl, hg⟩ := DataW.trod_struct Tryd.underlying45 h
  have hc : Tryd.prog.cellsOf 45 = 13 := by kernel_rfl
  have hci : Tryd.prog.cellsOf 3 = 1 := by kernel_rfl
  have hcb : Tryd.prog.cellsOf 4 = 1 := by kernel_rfl
  have hca : Tryd.prog.cellsOf 43 = 4 := by kernel_rfl
  rw [hc] at hl
  match cs, hl with
  | [c0, c1, c2, c3, c4, c5, c6, c7, c8, c9, c10, c11, c12], _ =>
  match xs, hxl with
  | [y0, y1, y2, y3, y4, y5, y6, y7, y8, y9], _ =>
    have g0 := hg 0 _ rfl
    have g1 := hg 1 _ rfl
    have g2 := hg 2 _ rfl
    have g3 := hg 3 _ rfl
    have g4 := hg 4 _ rfl
    have g5 := hg 5 _ rfl
    have g6 := hg 6 _ rfl
    have g7 := hg 7 _ rfl
    have g8 := hg 8 _ rfl
    have g9 := hg 9 _ rfl
    simp only [List.getElem?_cons_zero, List.getElem?_cons_succ] at g0 g1 g2 g3 g4 g5 g6 g7 g8 g9
    obtain ⟨z0, e0, _, w0⟩ := DataW.trod_int Tryd.underlying3 g0
    obtain ⟨z1, e1, _, w1⟩ := DataW.trod_int Tryd.underlying3 g1
    obtain ⟨z2, e2, _, w2⟩ := DataW.trod_int Tryd.underlying3 g2
    obtain ⟨z7, e7, _, w7⟩ := DataW.trod_int Tryd.underlying3 g4
    obtain ⟨z8, e8, _, w8⟩ := DataW.trod_int Tryd.underlying3 g5
    obtain ⟨z9, e9, _, w9⟩ := DataW.trod_int Tryd.underlying3 g6
    obtain ⟨z10, e10, _, w10⟩ := DataW.trod_int Tryd.underlying3 g7
    obtain ⟨z11, e11, _, w11⟩ := DataW.trod_int Tryd.underlying3 g8
    obtain ⟨b, eb, _⟩ := DataW.trod_bool Tryd.underlying4 g9
    obtain ⟨us, m3, _, _, hl3, hul, hu⟩ := DataW.trod_array Tryd.underlying43 g3
    match us, hul with
    | [u0, u1, u2, u3], _ =>
    have k0 := hu 0 (by omega)
    have k1 := hu 1 (by omega)
    have k2 := hu 2 (by omega)
    have k3 := hu 3 (by omega)
    simp only [List.getElem?_cons_zero, List.getElem?_cons_succ] at k0 k1 k2 k3
    obtain ⟨z3, e3, _, w3⟩ := DataW.trod_int Tryd.underlying3 k0
    obtain ⟨z4, e4, _, w4⟩ := DataW.trod_int Tryd.underlying3 k1
    obtain ⟨z5, e5, _, w5⟩ := DataW.trod_int Tryd.underlying3 k2
    obtain ⟨z6, e6, _, w6⟩ := DataW.trod_int Tryd.underlying3 k3
    simp [hci, hca, hcb] at e0 e1 e2 e3 e4 e5 e6 e7 e8 e9 e10 e11 eb
    subst e0 e1 e2 e3 e4 e5 e6 e7 e8 e9 e10 e11 eb
    exact ⟨⟨z0, z1, z2, z3, z4, z5, z6, z7, z8, z9, z10, z11, b⟩, rfl⟩
theorem open_script {b0 : Nat} {v : Value} {d : DataW H} {ps : List MemPlace} (hval : Value.okWide Tryd.prog W .any b0 TS v) (hd : DataW.Trod enc Tryd.prog W base (fun _ => true) held TS v d ps) :
    ∃ s Ai ci Ap np cp Ak nk ck, v = scrV s.q (.slice Ai s.ni ci) (.slice Ap np cp) (.slice Ak nk ck) ∧ Holds W s Ai ci Ap np cp Ak nk ck := by
  obtain ⟨cs, rfl, hs⟩ := okWide_struct Tryd.underlying50 hval
  obtain ⟨fuel, hf⟩ := hd
  obtain ⟨xs, m, _, _, hl, hxl, hg⟩ := DataW.trod_struct Tryd.underlying50 hf
  have hc : Tryd.prog.cellsOf 50 = 16 := by kernel_rfl
  have h1 : Tryd.prog.cellsOf 45 = 13 := by kernel_rfl
  have h2 : Tryd.prog.cellsOf 47 = 1 := by kernel_rfl
  have h3 : Tryd.prog.cellsOf 48 = 1 := by kernel_rfl
  have h4 : Tryd.prog.cellsOf 22 = 1 := by kernel_rfl
  rw [hc] at hs
  obtain ⟨l⟩ := cs
  match l, hs with
  | [c0, c1, c2, c3, c4, c5, c6, c7, c8, c9, c10, c11, c12, c13, c14, c15], _ =>
  match xs, hxl with
  | [y0, y1, y2, y3], _ =>
    have g0 := hg 0 _ rfl
    have g1 := hg 1 _ rfl
    have g2 := hg 2 _ rfl
    have g3 := hg 3 _ rfl
    simp only [List.getElem?_cons_zero, List.getElem?_cons_succ] at g0 g1 g2 g3
    obtain ⟨q, e0⟩ := open_cfg g0
    simp [h1, Value.cells] at e0
    simp [h2, Value.cells] at g1
    simp [h3, Value.cells] at g2
    simp [h4, Value.cells] at g3
    obtain ⟨Ai, ni, ci, zi, rfl, i1, i2, i3⟩ := open_irow Tryd.underlying47 Tryd.underlying55 (by kernel_rfl) g1
    obtain ⟨Ap, np, cp, zp, rfl, p1, p2, p3⟩ := open_pprow g2
    obtain ⟨Ak, nk, ck, zk, rfl, k1, k2, k3⟩ := open_irow Tryd.underlying22 Tryd.underlying3 (by kernel_rfl) g3
    obtain ⟨rfl, rfl, rfl, rfl, rfl, rfl, rfl, rfl, rfl, rfl, rfl, rfl, rfl⟩ := e0
    exact ⟨⟨q, ni, zp, zk⟩, Ai, ci, Ap, np, cp, Ak, nk, ck, rfl, ⟨i1, i2⟩, ⟨p1, p2⟩, ⟨k1, k2⟩, p3, k3⟩
end
end Go.Proofs.YthnhmclnfgkppaaDoor.ScrP
