/-
  The reference's Decode: its boxes and rows, and what its steps leave of them.
-/
import Derived.Test.YtafidppjabdecaaCodeRE
namespace Go.Proofs.Ytafidppjabdecaa.CodeRF
open Go.ChangeShapes Go.WideShapes Go.ChangeAt Go.RowKit
open PlainT BlkW LawFrame CodeS CodeW CodeA CodeE CodeF CodeG CodeH CodeI CodeJ CodeL CodeO CodeRA CodeRB CodeRC CodeRD CodeRE
open CodeM (IsV)
set_option linter.unusedVariables false
set_option maxHeartbeats 1000000

section
variable {P : Program} {ops : Array Oper} {o : Oper} {a : Act} {w : World} {K : Act → World → Prop} {Q : Exit → Act → World → Prop} {E : Prop}
/-- An append in a region that draws, by its run. -/
theorem step_push (hg : o.guard = none) (s x : Operand) (t : TypeId) (hop : o.op = Op.call { callee := Callee.builtin Builtin.append, args := #[s, x], argTypes := #[t, t] })
    (vs vx v : Value) (w' : World) (hs : a.eval s = vs) (hx : a.eval x = vx) (hrun : (Builtin.append_ #[t, t] o.type #[vs, vx]).run P w = .ok v w')
    (hK : K (a.put o.dst v) w') : if Region.wanted o (yielded ops a.tmps) = true then Oper.wp P o a w K Q else E := by
  have hw : Region.wanted o (yielded ops a.tmps) = true := by simp [Region.wanted, hg]
  rw [if_pos hw]
  unfold Oper.wp
  simp [execOp, hop, resolve, invoke, builtin, hs, hx, hrun, Result.andThen]
  exact hK
end

theorem Rq.far_ {B g i : Nat} {w : World} {l : List Int} {bad : Bool} (h : Rq B w g l i bad) {p : Addr} (hp : B ≤ p.block) (hg : g ≠ p.block) (u : Value) : Rq B (w.setCell p u) g l i bad := by
  obtain ⟨h1, h2, h3, h4, A, n, c, h5, h6, h7, h8, h9⟩ := h
  refine ⟨h1, by simpa [World.setCell] using h2, h3, h4, A, n, c, h5.far hg u, h6, h7, ⟨h8.1, h8.2.1, fun hn => ?_⟩, h9⟩
  obtain ⟨b, off, e, hb, hc⟩ := h8.2.2 hn
  have hbB := h9 hn _ e
  simp only at hbB
  refine ⟨b, off, e, by simpa [World.setCell] using hb, fun i hi => ?_⟩
  rw [World.cell?_of_block (w := w) (Below.heap_setCell w p u b (by omega))]
  exact hc i hi
theorem Rq.below_ {B g i : Nat} {w w' : World} {l : List Int} {bad : Bool} (h : Rq B w g l i bad) (hb : Below B w w') (hg : w'.heap[g]? = w.heap[g]?) : Rq B w' g l i bad := by
  obtain ⟨h1, h2, h3, h4, A, n, c, h5, h6, h7, h8, h9⟩ := h
  refine ⟨h1, Nat.le_trans h2 hb.size, h3, h4, A, n, c, hg.trans h5, h6, h7, ⟨h8.1, h8.2.1, fun hn => ?_⟩, h9⟩
  obtain ⟨b, off, e, hbb, hc⟩ := h8.2.2 hn
  have hbB := h9 hn _ e
  simp only at hbB
  exact ⟨b, off, e, Nat.lt_of_lt_of_le hbb hb.size, fun i hi => by rw [World.cell?_of_block (w := w) (hb.block b hbB)]; exact hc i hi⟩
def Z16 : Array Value := #[.int .i64 0, .int .i64 0, .int .i64 0, .int .i64 0, .int .i64 0, .int .i64 0, .int .i64 0, .int .i64 0, .int .i64 0, .int .i64 0, .int .i64 0, .int .i64 0, .bool false, .slice none 0 0, .slice none 0 0, .slice none 0 0]
/-- The reader, the result, the script's box. -/
structure Sx (B g4 g7 : Nat) (w0 w : World) (l : List Int) (j : Nat) (bad : Bool) (c7 : Array Value) : Prop where
  rq : Rq B w g4 l j bad
  res : Mem w B 29 Z16
  box : Mem w g7 29 c7
  bel : Below B w0 w
  gt : B < g7
  ne : g4 ≠ g7
section
variable {B g4 g7 : Nat} {w0 w w' : World} {l : List Int} {j j' : Nat} {bad bad' : Bool} {c7 : Array Value}
theorem Sx.size (h : Sx B g4 g7 w0 w l j bad c7) : B < w.heap.size := h.res.lt
theorem Sx.read (h : Sx B g4 g7 w0 w l j bad c7) (hq : Rq B w' g4 l j' bad') (hf : Fr TQ B w w') : Sx B g4 g7 w0 w' l j' bad' c7 :=
  ⟨hq, CodeW.Mem.fr h.res hf (by unfold TQ; decide), CodeW.Mem.fr h.box hf (by unfold TQ; decide), h.bel.trans hf.below, h.gt, h.ne⟩
theorem Sx.drewN (h : Sx B g4 g7 w0 w l j bad c7) (n : Nat) : Sx B g4 g7 w0 (w.drewN n) l j bad c7 :=
  ⟨CodeRA.Rq.drewN h.rq n, h.res, h.box, below_drewN h.bel n, h.gt, h.ne⟩
theorem Sx.drew (h : Sx B g4 g7 w0 w l j bad c7) : Sx B g4 g7 w0 w.drew l j bad c7 := h.drewN 1
theorem Sx.store (h : Sx B g4 g7 w0 w l j bad c7) (k : Nat) (u : Value) : Sx B g4 g7 w0 (w.setCell ⟨g7, k, none⟩ u) l j bad (c7.setIfInBounds k u) :=
  ⟨CodeRF.Rq.far_ h.rq (p := ⟨g7, k, none⟩) (Nat.le_of_lt h.gt) h.ne u, h.res.far (by show B ≠ g7; have := h.gt; omega) u, h.box.set_ k u, h.bel.setCell (Nat.le_of_lt h.gt) u, h.gt, h.ne⟩
theorem Sx.grown {row : Option Nat} (h : Sx B g4 g7 w0 w l j bad c7) (hg : w.grownBy w' row) (hr : ∀ k, row = some k → B < k ∧ k ≠ g4 ∧ k ≠ g7) : Sx B g4 g7 w0 w' l j bad c7 := by
  have hb : Below B w w' := (Below.refl B w).grown hg (Nat.le_of_lt h.size) (fun k hk => Nat.le_of_lt (hr k hk).1)
  have h4 := h.rq
  obtain ⟨_, _, _, _, A, n, c, h5, _⟩ := h4
  exact ⟨CodeRF.Rq.below_ h.rq hb (hg.block g4 h5.lt (fun e => (hr g4 e.symm).2.1 rfl)), (hg.block B h.size (fun e => absurd (hr B e.symm).1 (Nat.lt_irrefl _))).trans h.res, (hg.block g7 h.box.lt (fun e => (hr g7 e.symm).2.2 rfl)).trans h.box, h.bel.trans hb, h.gt, h.ne⟩
theorem Sx.alloc (h : Sx B g4 g7 w0 w l j bad c7) (o : Obj) : Sx B g4 g7 w0 (w.alloc o) l j bad c7 := by
  have hb : Below B w (w.alloc o) := (Below.refl B w).alloc (Nat.le_of_lt h.size) o
  have h4 := h.rq
  obtain ⟨_, _, _, _, A, n, c, h5, _⟩ := h4
  exact ⟨CodeRF.Rq.below_ h.rq hb (BlkW.heap_alloc_old w o g4 h5.lt), h.res.alloc o, h.box.alloc o, h.bel.trans hb, h.gt, h.ne⟩
/-- Rows of other types stay. -/
def Kp (B : Nat) (te : TypeId) (w w' : World) : Prop := ∀ t2 s2 v2 n2 xs2, t2 ≠ te → w.ownsRow B t2 s2 v2 n2 xs2 → w'.ownsRow B t2 s2 v2 n2 xs2
theorem Sx.ne_own {te : TypeId} {size n : Nat} {v : Value} {xs : List Value} (h : Sx B g4 g7 w0 w l j bad c7) (hown : w.ownsRow B te size v n xs) (h1 : te ≠ 29) (h2 : te ≠ 69) : ∀ k, v.ownBlock = some k → B < k ∧ k ≠ g4 ∧ k ≠ g7 := by
  intro k hk
  obtain ⟨hBk, cs, t, fr, hh, rfl⟩ := own_row hown k hk
  have h4 := h.rq
  obtain ⟨_, _, _, _, A, n, c, h5, _⟩ := h4
  have n1 := own_ne_mem hown h.res h1
  have n2 := own_ne_mem hown h.box h1
  have n3 := own_ne_mem hown h5 h2
  refine ⟨?_, fun e => n3 (e ▸ hk), fun e => n2 (e ▸ hk)⟩
  rcases Nat.lt_or_ge B k with h6 | h6
  · exact h6
  · exact absurd (show v.ownBlock = some B by rw [hk]; congr 1; omega) n1
/-- One value more at the end of a row of the call's own. -/
theorem push_gen {te ts : TypeId} {z : Value} {bytes : Nat} (hu : Try.prog.underlying ts = some (.slice te)) (hinfo : (Try.prog.info? te).map (fun i => (i.zero, i.size, i.bytes)) = some (some z, 1, bytes)) (hz : z.cells.size = 1) (hb : bytes ≤ 24)
    (h1 : te ≠ 29) (h2 : te ≠ 69) (hs : Sx B g4 g7 w0 w l j bad c7) {v : Value} {n : Nat} {xs : List Value} (hown : w.ownsRow B te 1 v n xs) (hn : n ≤ 300000) (x : Value) (hx : x.oneCell' = true) :
    ∃ A c w', (Builtin.append_ #[ts, ts] ts #[v, .slice (some ⟨w.heap.size, 0, none⟩) 1 1]).run Try.prog (w.alloc (.cells #[x] te)) = .ok (.slice A (n + 1) c) w' ∧ w'.ownsRow B te 1 (.slice A (n + 1) c) (n + 1) (xs ++ [x]) ∧ Sx B g4 g7 w0 w' l j bad c7 ∧ Kp B te w w' := by
  obtain ⟨i0, hi, hz0, hz1, hz2⟩ := info_parts hinfo
  have hsz := hs.size
  have hown1 := hown.alloc (.cells #[x] te)
  have hs1 := hs.alloc (.cells #[x] te)
  obtain ⟨v', w', hrun, hown', hgr, _⟩ := run_append_own (P := Try.prog) (w := w.alloc (.cells #[x] te)) B ts ts te i0 z 1 bytes hu hi hz0 hz1 hz2 hz (by decide) v n xs hown1 ⟨w.heap.size, 0, none⟩ 1 1 [x] rfl (cell_lit (W := w) (l := [x])) (by simpa using hx)
    (by unfold maxLen; omega) (Nat.le_trans (Nat.mul_le_mul_left _ hb) (by omega)) (by rw [size_new]; omega)
  obtain ⟨A, c, rfl, _⟩ := own_slice hown'
  refine ⟨A, c, w', hrun, hown', hs1.grown hgr (hs1.ne_own hown1 h1 h2), fun t2 s2 v2 n2 xs2 hne ho => ?_⟩
  refine own_kept (ho.alloc _) hgr (fun k hk => ?_)
  obtain ⟨_, cs, t, fr, hh, rfl⟩ := own_row hown1 k hk
  exact ⟨cs, t, fr, hh, hne⟩
theorem Kp.pv {te : TypeId} {vs : List Value} {ps : List (List (List Int))} (h : Kp B te w w') (hne : 75 ≠ te) (hp : PV w B vs ps) : PV w' B vs ps :=
  ⟨hp.1, fun i p hi => by obtain ⟨A, c, h1, h2⟩ := hp.2 i p hi; exact ⟨A, c, h1, h _ _ _ _ _ hne h2⟩⟩
/-- A store into the script's box leaves the rows. -/
theorem Sx.own_store {te : TypeId} {size n : Nat} {v : Value} {xs : List Value} (h : Sx B g4 g7 w0 w l j bad c7) (hown : w.ownsRow B te size v n xs) (h1 : te ≠ 29) (k : Nat) (u : Value) : (w.setCell ⟨g7, k, none⟩ u).ownsRow B te size v n xs :=
  own_far hown (own_ne_mem hown h.box h1) u
theorem Sx.pv_store {vs : List Value} {ps : List (List (List Int))} (h : Sx B g4 g7 w0 w l j bad c7) (hp : PV w B vs ps) (k : Nat) (u : Value) : PV (w.setCell ⟨g7, k, none⟩ u) B vs ps :=
  ⟨hp.1, fun i p hi => by obtain ⟨A, c, h1, h2⟩ := hp.2 i p hi; exact ⟨A, c, h1, h.own_store h2 (by decide) k u⟩⟩
/-- One instruction more at the end of a row that was begun behind the world wb. -/
theorem push_q {wb : World} (hq : Rq B w g4 l j bad) (hf : Fr TQ B wb w) (hB : B ≤ wb.heap.size) (h4 : g4 < wb.heap.size) {v : Value} {n : Nat} {xs : List Value} (hown : w.ownsRow wb.heap.size 75 5 v n xs) (hn : n ≤ 300000) (a0 a1 a2 a3 a4 : Int) :
    ∃ A c w', (Builtin.append_ #[53, 53] 53 #[v, .slice (some ⟨w.heap.size, 0, none⟩) 1 1]).run Try.prog (w.alloc (.cells #[.int .i64 a0, .int .i64 a1, .int .i64 a2, .int .i64 a3, .int .i64 a4] 75)) = .ok (.slice A (n + 1) c) w' ∧
      w'.ownsRow wb.heap.size 75 5 (.slice A (n + 1) c) (n + 1) (xs ++ [.int .i64 a0, .int .i64 a1, .int .i64 a2, .int .i64 a3, .int .i64 a4]) ∧ Rq B w' g4 l j bad ∧ Fr TQ B wb w' := by
  obtain ⟨i0, hi, hz0, hz1, hz2⟩ := info_parts CodeH.info_ins
  have hsz := hf.size
  have hown1 := hown.alloc (.cells #[.int .i64 a0, .int .i64 a1, .int .i64 a2, .int .i64 a3, .int .i64 a4] 75)
  obtain ⟨v', w', hrun, hown', hgr, _⟩ := run_append_own (P := Try.prog) (w := w.alloc (.cells #[.int .i64 a0, .int .i64 a1, .int .i64 a2, .int .i64 a3, .int .i64 a4] 75)) wb.heap.size 53 53 75 i0 _ 5 40 Try.underlying53 hi hz0 hz1 hz2 rfl (by decide) v n xs hown1 ⟨w.heap.size, 0, none⟩ 1 1 [.int .i64 a0, .int .i64 a1, .int .i64 a2, .int .i64 a3, .int .i64 a4] rfl (cell_lit (W := w) (l := [.int .i64 a0, .int .i64 a1, .int .i64 a2, .int .i64 a3, .int .i64 a4])) (by simp [Value.oneCell'])
    (by unfold maxLen; omega) (by omega) (by rw [size_new]; omega)
  obtain ⟨A, c, rfl, _⟩ := own_slice hown'
  have hlow : ∀ k, v.ownBlock = some k → wb.heap.size ≤ k := fun k hk => (own_row hown1 k hk).1
  have hfa := hf.alloc (Nat.le_trans hB hsz) (.cells #[.int .i64 a0, .int .i64 a1, .int .i64 a2, .int .i64 a3, .int .i64 a4] 75)
  have hb1 : Below B w w' := ((Below.refl B w).alloc (Nat.le_trans hB hsz) _).grown hgr (by rw [size_new]; omega) (fun k hk => Nat.le_trans hB (hlow k hk))
  refine ⟨A, c, w', hrun, hown', CodeRF.Rq.below_ hq hb1 ?_, hfa.grownNew hB hgr hlow⟩
  exact (hgr.block g4 (by rw [size_new]; omega) (fun e => absurd (hlow g4 e.symm) (by omega))).trans (BlkW.heap_alloc_old w _ g4 (by omega))
/-- An instruction's box while its numbers are read. -/
structure Ix (B g4 g12 : Nat) (w8 w : World) (l : List Int) (j : Nat) (bad : Bool) (cs : Array Value) : Prop where
  rq : Rq B w g4 l j bad
  fr : Fr TQ B w8 w
  box : Mem w g12 75 cs
  ne : g4 ≠ g12
  new : w8.heap.size ≤ g12
  hB : B ≤ w8.heap.size
theorem Ix.start {wb : World} {cs : Array Value} (hq : Rq B w g4 l j bad) (hf : Fr TQ B wb w) (hB : B ≤ wb.heap.size) : Ix B g4 w.heap.size wb (w.alloc (.cells cs 75)) l j bad cs := by
  have h4 := hq
  obtain ⟨_, _, _, _, A, n, c, h5, _⟩ := h4
  have h6 := h5.lt
  have h7 : B ≤ w.heap.size := Nat.le_trans hB hf.size
  exact ⟨CodeRF.Rq.below_ hq ((Below.refl B w).alloc h7 _) (BlkW.heap_alloc_old w _ g4 h6), hf.alloc h7 _, Mem.new w _ _, by omega, hf.size, hB⟩
theorem Ix.read {g12 : Nat} {w8 : World} {cs : Array Value} (h : Ix B g4 g12 w8 w l j bad cs) (hq : Rq B w' g4 l j' bad') (hf : Fr TQ B w w') : Ix B g4 g12 w8 w' l j' bad' cs :=
  ⟨hq, h.fr.trans hf, CodeW.Mem.fr h.box hf (by unfold TQ; decide), h.ne, h.new, h.hB⟩
theorem Ix.store {g12 : Nat} {w8 : World} {cs : Array Value} (h : Ix B g4 g12 w8 w l j bad cs) (k : Nat) (u : Value) : Ix B g4 g12 w8 (w.setCell ⟨g12, k, none⟩ u) l j bad (cs.setIfInBounds k u) :=
  ⟨CodeRF.Rq.far_ h.rq (p := ⟨g12, k, none⟩) (Nat.le_trans h.hB h.new) h.ne u, h.fr.setNew h.hB (p := ⟨g12, k, none⟩) h.new u, h.box.set_ k u, h.ne, h.new, h.hB⟩
/-- The way out on bad bytes. -/
theorem Sx.bad_exit (h : Sx w0.heap.size g4 g7 w0 w l j bad c7) (hl : l.length ≤ 262144) (hN : decP l = none) :
    Mem (sets w w0.heap.size 0 [.int .i64 0, .int .i64 0, .int .i64 0, .int .i64 0, .int .i64 0, .int .i64 0, .int .i64 0, .int .i64 0, .int .i64 0, .int .i64 0, .int .i64 0, .int .i64 0, .bool false, .slice none 0 0, .slice none 0 0, .slice none 0 0]) w0.heap.size 29 Z16 ∧
      DecIs l w0 (.returned (.tuple #[zeroV, .int .i64 30])) (sets w w0.heap.size 0 [.int .i64 0, .int .i64 0, .int .i64 0, .int .i64 0, .int .i64 0, .int .i64 0, .int .i64 0, .int .i64 0, .int .i64 0, .int .i64 0, .int .i64 0, .int .i64 0, .bool false, .slice none 0 0, .slice none 0 0, .slice none 0 0]) := by
  have m1 := sets_mem w0.heap.size 29 [.int .i64 0, .int .i64 0, .int .i64 0, .int .i64 0, .int .i64 0, .int .i64 0, .int .i64 0, .int .i64 0, .int .i64 0, .int .i64 0, .int .i64 0, .int .i64 0, .bool false, .slice none 0 0, .slice none 0 0, .slice none 0 0] w [] [.int .i64 0, .int .i64 0, .int .i64 0, .int .i64 0, .int .i64 0, .int .i64 0, .int .i64 0, .int .i64 0, .int .i64 0, .int .i64 0, .int .i64 0, .int .i64 0, .bool false, .slice none 0 0, .slice none 0 0, .slice none 0 0] h.res rfl
  exact ⟨m1, below_sets h.bel (Nat.le_refl _) 0 _, .inr ⟨hl, .inl ⟨hN, rfl⟩⟩⟩
theorem Sx.own_sets {B : Nat} {te : TypeId} {size n : Nat} {v : Value} {xs : List Value} (h : Sx B g4 g7 w0 w l j bad c7) (hown : w.ownsRow B te size v n xs) (h1 : te ≠ 29) (vs : List Value) : (sets w B 0 vs).ownsRow B te size v n xs :=
  own_of_block hown fun g hg => sets_heap B vs w 0 g (fun e => own_ne_mem hown h.res h1 (e ▸ hg))
/-- The way out with a script. -/
theorem Sx.final {x0 x1 x2 x3 x4 x5 x6 x7 x8 x9 x10 x11 : Int} {st : Bool} {is ks : List Int} {ps : List (List (List Int))} {vs : List Value} {Ai Ap Ak : Option Addr} {ci cp ck : Nat} (h : Sx w0.heap.size g4 g7 w0 w l j bad c7) (hl : l.length ≤ 262144)
    (hD : decP l = some ⟨[x0, x1, x2, x3, x4, x5, x6, x7, x8, x9, x10, x11], st, is, ps, ks⟩) (h1 : w.ownsRow w0.heap.size 46 1 (.slice Ai is.length ci) is.length (cU is)) (h2 : PV w w0.heap.size vs ps)
    (h3 : w.ownsRow w0.heap.size 53 1 (.slice Ap ps.length cp) ps.length vs) (h4 : w.ownsRow w0.heap.size 3 1 (.slice Ak ks.length ck) ks.length (cS ks)) :
    Mem (sets w w0.heap.size 0 [.int .i64 x0, .int .i64 x1, .int .i64 x2, .int .i64 x3, .int .i64 x4, .int .i64 x5, .int .i64 x6, .int .i64 x7, .int .i64 x8, .int .i64 x9, .int .i64 x10, .int .i64 x11, .bool st, .slice Ai is.length ci, .slice Ap ps.length cp, .slice Ak ks.length ck]) w0.heap.size 29 #[.int .i64 x0, .int .i64 x1, .int .i64 x2, .int .i64 x3, .int .i64 x4, .int .i64 x5, .int .i64 x6, .int .i64 x7, .int .i64 x8, .int .i64 x9, .int .i64 x10, .int .i64 x11, .bool st, .slice Ai is.length ci, .slice Ap ps.length cp, .slice Ak ks.length ck] ∧
      DecIs l w0 (.returned (.tuple #[.agg #[.int .i64 x0, .int .i64 x1, .int .i64 x2, .int .i64 x3, .int .i64 x4, .int .i64 x5, .int .i64 x6, .int .i64 x7, .int .i64 x8, .int .i64 x9, .int .i64 x10, .int .i64 x11, .bool st, .slice Ai is.length ci, .slice Ap ps.length cp, .slice Ak ks.length ck], .int .i64 0])) (sets w w0.heap.size 0 [.int .i64 x0, .int .i64 x1, .int .i64 x2, .int .i64 x3, .int .i64 x4, .int .i64 x5, .int .i64 x6, .int .i64 x7, .int .i64 x8, .int .i64 x9, .int .i64 x10, .int .i64 x11, .bool st, .slice Ai is.length ci, .slice Ap ps.length cp, .slice Ak ks.length ck]) := by
  have m1 := sets_mem w0.heap.size 29 [.int .i64 x0, .int .i64 x1, .int .i64 x2, .int .i64 x3, .int .i64 x4, .int .i64 x5, .int .i64 x6, .int .i64 x7, .int .i64 x8, .int .i64 x9, .int .i64 x10, .int .i64 x11, .bool st, .slice Ai is.length ci, .slice Ap ps.length cp, .slice Ak ks.length ck] w [] [.int .i64 0, .int .i64 0, .int .i64 0, .int .i64 0, .int .i64 0, .int .i64 0, .int .i64 0, .int .i64 0, .int .i64 0, .int .i64 0, .int .i64 0, .int .i64 0, .bool false, .slice none 0 0, .slice none 0 0, .slice none 0 0] h.res rfl
  refine ⟨m1, below_sets h.bel (Nat.le_refl _) 0 _, .inr ⟨hl, .inr ⟨_, _, hD, rfl, x0, x1, x2, x3, x4, x5, x6, x7, x8, x9, x10, x11, Ai, ci, Ap, cp, Ak, ck, vs, rfl, rfl, h.own_sets h1 (by decide) _, ⟨h2.1, fun i p hp => ?_⟩, h.own_sets h3 (by decide) _, h.own_sets h4 (by decide) _⟩⟩⟩
  obtain ⟨A, c, h5, h6⟩ := h2.2 i p hp
  exact ⟨A, c, h5, h.own_sets h6 (by decide) _⟩
theorem St.no {D X : Option Scr} {bad : Bool} (h : St D bad X) (hX : X = none) : D = none := by
  rcases h with ⟨_, h⟩ | ⟨_, h⟩
  · exact h
  · rw [h, hX]
theorem St.to {D X Y : Option Scr} {bad : Bool} (h : St D bad X) (hX : X = Y) : St D bad Y := hX ▸ h
end
end Go.Proofs.Ytafidppjabdecaa.CodeRF
