/-
  A made script and what becomes of it where one part is changed: the rows, what the value holds.
-/
import Derived.Test.YthnhmclnfgkppaaDoorScrN
import Derived.Test.YthnhmclnfgkppaaDoorScrA
namespace Go.Proofs.YthnhmclnfgkppaaDoor.ScrQ
open Go.ChangeShapes Go.WideShapes Go.ChangeAt Go.RowKit
open PlainT BlkW LawFrame IsaF PrgS PrgC PrgI PrgG PrgL Go.Proofs.YthnhmclnfgkppaaDoor.Own OwnS PrgZ LayS LayA ScrP ScrM ScrN ScrA
set_option linter.unusedVariables false
set_option maxHeartbeats 1000000
/-- Rows of programs, each the call's own. -/
def RW (B : Nat) (w : World) (vs : List Value) (ps : List (List I5)) : Prop := vs.length = ps.length ∧ ∀ (i : Nat) p, ps[i]? = some p → ∃ A c, vs[i]? = some (.slice A p.length c) ∧ w.ownsRow B 31 5 (.slice A p.length c) p.length (cellsI p) ∧ ∀ x ∈ p, OkI x
theorem rw_pv {B m : Nat} {w : World} {vs : List Value} {ps : List (List I5)} (h : PV B m w vs ps) : RW B w vs ps := ⟨h.len, fun i p hi => by obtain ⟨A, c, h1, h2, _, _, h3⟩ := h.row i p hi; exact ⟨A, c, h1, h2, h3⟩⟩
theorem RW.map {B : Nat} {w w' : World} {vs : List Value} {ps : List (List I5)} (h : RW B w vs ps) (k : ∀ v n xs, w.ownsRow B 31 5 v n xs → w'.ownsRow B 31 5 v n xs) : RW B w' vs ps :=
  ⟨h.1, fun i p hi => by obtain ⟨A, c, h1, h2, h3⟩ := h.2 i p hi; exact ⟨A, c, h1, k _ _ _ h2, h3⟩⟩
theorem rowP_of {B n c : Nat} {w : World} {A : Option Addr} {vs : List Value} {ps : List (List I5)} (h : w.ownsRow B 24 1 (.slice A n c) n vs) (k : RW B w vs ps) : RowP w A n ps := by
  have hl : vs.length = n := by have := h.1; omega
  refine ⟨by rw [← k.1, hl], fun hn => ?_⟩
  obtain ⟨g, cap, cur, hv, _, _, hg, hc⟩ := own_cells h hn
  injection hv with e1 e2 e3
  subst e1
  refine ⟨g, 0, rfl, hg, fun i hi => ?_⟩
  have hz : ps[i]? = some (ps[i]'(by rw [← k.1, hl]; exact hi)) := List.getElem?_eq_getElem _
  obtain ⟨Ai, ci, h1, h2, h3⟩ := k.2 i _ hz
  have e : ps.getD i [] = ps[i]'(by rw [← k.1, hl]; exact hi) := by rw [List.getD_eq_getElem?_getD, hz]; rfl
  obtain ⟨_, _, e4, h5, h6⟩ := own_slice h2
  injection e4 with e4 e5 e6
  subst e4 e6
  rw [e]
  exact ⟨Ai, _, ci, by rw [Nat.zero_add, hc i (by omega)]; exact h1, h5, h6, rowI_of_own h2, h3⟩
theorem ints_of_own {B n c : Nat} {w : World} {A : Option Addr} {zs : List Int} (h : w.ownsRow B 3 1 (.slice A n c) n (zs.map (Value.int .i64))) (hz : ∀ z ∈ zs, (Lit.int .i64 z).wf = true) : Ints .i64 w A n zs := by
  have hl : zs.length = n := by have := h.1; simp at this; omega
  refine ⟨hl, hz, fun hn => ?_⟩
  obtain ⟨g, cap, cur, hv, _, _, hg, hc⟩ := own_cells h hn
  injection hv with e1 e2 e3
  subst e1
  refine ⟨g, 0, rfl, hg, fun i hi => ?_⟩
  rw [Nat.zero_add, hc i (by omega), List.getElem?_map, List.getD_eq_getElem?_getD, List.getElem?_eq_getElem (by omega)]
  rfl
theorem wf_i64 {z : Int} (h0 : -9223372036854775808 ≤ z) (h1 : z ≤ 9223372036854775807) : (Lit.int .i64 z).wf = true := by
  simp [Lit.wf, IntKind.min, IntKind.max, IntKind.signed, IntKind.bits]
  omega
/-- A script's rows, each the call's own. -/
structure RS3 (w0 : World) (vi vp vk : Value) (i0 np nk : Nat) (xs vs : List Value) (ps : List (List I5)) (zs : List Int) (w : World) : Prop where
  bel : Below w0.heap.size w0 w
  ini : w.ownsRow w0.heap.size 55 1 vi i0 xs
  pro : w.ownsRow w0.heap.size 24 1 vp np vs
  rw : RW w0.heap.size w vs ps
  pic : w.ownsRow w0.heap.size 3 1 vk nk (zs.map (Value.int .i64))
  wf : ∀ z ∈ zs, (Lit.int .i64 z).wf = true
section
variable {w0 w w' : World} {vi vp vk : Value} {i0 np nk gs : Nat} {xs vs : List Value} {ps : List (List I5)} {zs : List Int}
theorem RS3.holds (h : RS3 w0 vi vp vk i0 np nk xs vs ps zs w) (q : Cfg) : ∃ Ai ci Ap cp Ak ck, vi = .slice Ai i0 ci ∧ vp = .slice Ap np cp ∧ vk = .slice Ak nk ck ∧ Holds w ⟨q, i0, ps, zs⟩ Ai ci Ap np cp Ak nk ck := by
  obtain ⟨Ai, ci, e1, h1, h2⟩ := own_slice h.ini
  obtain ⟨Ap, cp, e2, h3, h4⟩ := own_slice h.pro
  obtain ⟨Ak, ck, e3, h5, h6⟩ := own_slice h.pic
  have hp := h.pro
  have hk := h.pic
  rw [e2] at hp
  rw [e3] at hk
  exact ⟨Ai, ci, Ap, cp, Ak, ck, e1, e2, e3, ⟨h1, h2⟩, ⟨h3, h4⟩, ⟨h5, h6⟩, rowP_of hp h.rw, ints_of_own hk h.wf⟩
theorem RS3.puts {cs : Array Value} (h : RS3 w0 vi vp vk i0 np nk xs vs ps zs w) (hm : Mem w gs TS cs) (hg : w0.heap.size ≤ gs) (l : List (Nat × Value)) : RS3 w0 vi vp vk i0 np nk xs vs ps zs (puts gs l w) :=
  ⟨puts_below hg l h.bel, puts_own h.ini (own_ne_mem h.ini hm (by decide)) l, puts_own h.pro (own_ne_mem h.pro hm (by decide)) l, h.rw.map (fun v n xs ho => puts_own ho (own_ne_mem ho hm (by decide)) l), puts_own h.pic (own_ne_mem h.pic hm (by decide)) l, h.wf⟩
theorem RS3.below (h : RS3 w0 vi vp vk i0 np nk xs vs ps zs w) (hb : Below w.heap.size w w') : RS3 w0 vi vp vk i0 np nk xs vs ps zs w' :=
  have o := Old.of_below hb
  ⟨h.bel.trans (hb.mono h.bel.size), own_old h.ini o, own_old h.pro o, h.rw.map (fun v n xs ho => own_old ho o), own_old h.pic o, h.wf⟩
theorem RS3.drew (h : RS3 w0 vi vp vk i0 np nk xs vs ps zs w) : RS3 w0 vi vp vk i0 np nk xs vs ps zs w.drew := h.below (below_drewN (Below.refl _ w) 1)
/-- What the switch leaves. -/
def Fin (w0 : World) (gs : Nat) (w : World) : Prop := ∃ s Ai ci Ap np cp Ak nk ck, Mem w gs TS (scells s.q (.slice Ai s.ni ci) (.slice Ap np cp) (.slice Ak nk ck)) ∧ Holds w s Ai ci Ap np cp Ak nk ck ∧ Below w0.heap.size w0 w
theorem fin_of {q : Cfg} (h : RS3 w0 vi vp vk i0 np nk xs vs ps zs w) (hm : Mem w gs TS (scells q vi vp vk)) : Fin w0 gs w := by
  obtain ⟨Ai, ci, Ap, cp, Ak, ck, rfl, rfl, rfl, hh⟩ := h.holds q
  exact ⟨⟨q, i0, ps, zs⟩, Ai, ci, Ap, np, cp, Ak, nk, ck, hm, hh, h.bel⟩
theorem sm_rs {q : Cfg} {n m : Nat} {ks : List Value} (hn : n ≤ 3) (h : SM w0 q n m nk vi vp vk i0 xs vs ps ks zs w) : RS3 w0 vi vp vk i0 n nk xs vs ps zs w := by
  have hk := h.pic
  rw [h.pk.1] at hk
  exact ⟨h.bel, h.ini, h.pro, rw_pv h.pv, hk, fun z hz => by have := h.pk.2 z hz; exact wf_i64 (by omega) (by omega)⟩
/-- The cells of a configuration, each with its place. -/
abbrev cput (q : Cfg) : List (Nat × Value) := [(0, .int .i64 q.w), (1, .int .i64 q.o), (2, .int .i64 q.b), (3, .int .i64 q.c0), (4, .int .i64 q.c1), (5, .int .i64 q.c2), (6, .int .i64 q.c3), (7, .int .i64 q.r), (8, .int .i64 q.t), (9, .int .i64 q.a), (10, .int .i64 q.f), (11, .int .i64 q.k), (12, .bool q.s)]
theorem cput_cells (q q' : Cfg) (a b c : Value) : (cput q').foldl (fun (cs : Array Value) p => cs.setIfInBounds p.1 p.2) (scells q a b c) = scells q' a b c := by
  simp only [List.foldl_cons, List.foldl_nil, List.setIfInBounds_toArray, List.set_cons_succ, List.set_cons_zero]
/-- The first part is changed: the configuration. -/
theorem fin_cfg {q q' : Cfg} (h : RS3 w0 vi vp vk i0 np nk xs vs ps zs w) (hm : Mem w gs TS (scells q vi vp vk)) (hg : w0.heap.size ≤ gs) :
    Fin w0 gs (ScrN.puts gs (cput q') w) :=
  fin_of (q := q') (h.puts hm hg _) (cput_cells q q' vi vp vk ▸ puts_mem (cput q') w _ hm)
/-- One number more. -/
theorem fin_init {q : Cfg} (h : RS3 w0 vi vp vk i0 np nk xs vs ps zs w) (hm : Mem w gs TS (scells q vi vp vk)) (hg : w0.heap.size ≤ gs) (hi : i0 ≤ 300000) (z : Int) :
    ∃ A c w3, (Builtin.append_ #[47, 47] 47 #[vi, .slice (some ⟨w.heap.size, 0, none⟩) 1 1]).run Tryd.prog (w.alloc (.cells #[.int .u64 z] 55)) = .ok (.slice A (i0 + 1) c) w3 ∧
      w3.cell? ⟨gs, 13, none⟩ = some vi ∧ w3.frozen? ⟨gs, 13, none⟩ = false ∧ Fin w0 gs (w3.setCell ⟨gs, 13, none⟩ (.slice A (i0 + 1) c)) := by
  have hsz : w0.heap.size ≤ w.heap.size := h.bel.size
  obtain ⟨A, c, w3, hrun, hown3, hb3, hk3, hkk3⟩ := push_u (B := w0.heap.size) hsz h.ini hi z
  have hm3 : Mem w3 gs TS (scells q vi vp vk) := (hkk3 gs hm.lt (own_ne_mem h.ini hm (by decide))).trans hm
  have hr : RS3 w0 (.slice A (i0 + 1) c) vp vk (i0 + 1) np nk _ vs ps zs w3 := ⟨h.bel.trans hb3, hown3, hk3 _ _ _ _ _ (by decide) h.pro, h.rw.map (fun v n xs ho => hk3 _ _ _ _ _ (by decide) ho), hk3 _ _ _ _ _ (by decide) h.pic, h.wf⟩
  exact ⟨A, c, w3, hrun, hm3.cell 13, hm3.frozen 13, fin_of (q := q) (hr.puts hm3 hg [(13, .slice A (i0 + 1) c)]) (puts_mem [(13, .slice A (i0 + 1) c)] w3 _ hm3)⟩
/-- No program. -/
theorem fin_nil {q : Cfg} (h : RS3 w0 vi vp vk i0 np nk xs vs ps zs w) (hm : Mem w gs TS (scells q vi vp vk)) (hg : w0.heap.size ≤ gs) : Fin w0 gs (w.setCell ⟨gs, 14, none⟩ (.slice none 0 0)) := by
  have hr := h.puts hm hg [(14, .slice none 0 0)]
  exact fin_of (q := q) (vp := .slice none 0 0) (np := 0) (vs := []) (ps := []) ⟨hr.bel, hr.ini, World.ownsRow_nil _ _ _ _, ⟨rfl, fun i p hi => by simp at hi⟩, hr.pic, hr.wf⟩ (puts_mem [(14, .slice none 0 0)] w _ hm)
/-- One empty program more. -/
theorem rs_empty {q : Cfg} (h : RS3 w0 vi vp vk i0 np nk xs vs ps zs w) (hm : Mem w gs TS (scells q vi vp vk)) (hg : w0.heap.size ≤ gs) (hn : np ≤ 300000) :
    ∃ A c w3, (Builtin.append_ #[48, 48] 48 #[vp, .slice (some ⟨w.heap.size, 0, none⟩) 1 1]).run Tryd.prog (w.alloc (.cells #[.slice none 0 0] 24)) = .ok (.slice A (np + 1) c) w3 ∧
      w3.cell? ⟨gs, 14, none⟩ = some vp ∧ w3.frozen? ⟨gs, 14, none⟩ = false ∧ RS3 w0 vi (.slice A (np + 1) c) vk i0 (np + 1) nk xs (vs ++ [.slice none 0 0]) (ps ++ [[]]) zs (w3.setCell ⟨gs, 14, none⟩ (.slice A (np + 1) c)) ∧ Mem (w3.setCell ⟨gs, 14, none⟩ (.slice A (np + 1) c)) gs TS (scells q vi (.slice A (np + 1) c) vk) := by
  have hsz : w0.heap.size ≤ w.heap.size := h.bel.size
  obtain ⟨A, c, w3, hrun, hown3, hb3, hk3, hkk3⟩ := push_p (B := w0.heap.size) hsz h.pro hn none 0 0
  have hm3 : Mem w3 gs TS (scells q vi vp vk) := (hkk3 gs hm.lt (own_ne_mem h.pro hm (by decide))).trans hm
  have hrw : RW w0.heap.size w3 (vs ++ [.slice none 0 0]) (ps ++ [[]]) := by
    have h' := h.rw.map (fun v n xs ho => hk3 _ _ _ _ _ (by decide) ho)
    refine ⟨by simp [h.rw.1], fun i p hi => ?_⟩
    by_cases e : i < ps.length
    · rw [List.getElem?_append_left e] at hi
      obtain ⟨A1, c1, h1, h2⟩ := h'.2 i p hi
      exact ⟨A1, c1, by rw [List.getElem?_append_left (by rw [h.rw.1]; exact e)]; exact h1, h2⟩
    · rw [List.getElem?_append_right (by omega)] at hi
      have e2 : i - ps.length = 0 := by
        have := (List.getElem?_eq_some_iff.1 hi).1
        simp at this
        omega
      rw [e2] at hi
      injection hi with hi
      subst hi
      refine ⟨none, 0, ?_, World.ownsRow_nil _ _ _ _, fun x hx => by cases hx⟩
      rw [List.getElem?_append_right (by rw [h.rw.1]; omega), h.rw.1, e2]
      rfl
  have hr : RS3 w0 vi (.slice A (np + 1) c) vk i0 (np + 1) nk xs (vs ++ [.slice none 0 0]) (ps ++ [[]]) zs w3 := ⟨h.bel.trans hb3, hk3 _ _ _ _ _ (by decide) h.ini, hown3, hrw, hk3 _ _ _ _ _ (by decide) h.pic, h.wf⟩
  exact ⟨A, c, w3, hrun, hm3.cell 14, hm3.frozen 14, hr.puts hm3 hg [(14, .slice A (np + 1) c)], puts_mem [(14, .slice A (np + 1) c)] w3 _ hm3⟩
/-- A pick is changed. -/
theorem fin_pick {q : Cfg} {g c j : Nat} (h : RS3 w0 vi vp (.slice (some ⟨g, 0, none⟩) nk c) i0 np nk xs vs ps zs w) (hm : Mem w gs TS (scells q vi vp (.slice (some ⟨g, 0, none⟩) nk c))) (hj : j < nk) {v : Int} (hv : (Lit.int .i64 v).wf = true) : Fin w0 gs (w.setCell ⟨g, j, none⟩ (.int .i64 v)) := by
  obtain ⟨g', c', cur, e, h0, hh, _, _⟩ := own_cells h.pic (by omega)
  injection e with e1 e2 e3
  injection e1 with e1
  injection e1 with e1
  subst e1 e3
  have hmg : Mem w g 3 cur := hh
  have hne : gs ≠ g := fun e => by
    subst e
    rw [Mem, hmg] at hm
    injection hm with hm
    injection hm with _ hm
    exact absurd hm (by decide)
  have hp := own_set h.pic (.int .i64 v) (j := j) (by omega)
  rw [show (zs.map (Value.int .i64)).set j (.int .i64 v) = (zs.set j v).map (Value.int .i64) by rw [List.map_set]] at hp
  refine fin_of (q := q) ⟨h.bel.setCell h0 _, own_far h.ini (own_ne_mem h.ini hmg (by decide)) _, own_far h.pro (own_ne_mem h.pro hmg (by decide)) _, h.rw.map (fun v n xs ho => own_far ho (own_ne_mem ho hmg (by decide)) _), hp, fun z hz => ?_⟩ (hm.far (a := ⟨g, j, none⟩) hne _)
  rcases List.mem_or_eq_of_mem_set hz with hz | rfl
  · exact h.wf z hz
  · exact hv
end
theorem puts_own_set {w : World} {base size n g cap : Nat} {e : TypeId} : ∀ (l : List (Nat × Value)) (w : World) (xs : List Value), w.ownsRow base e size (.slice (some ⟨g, 0, none⟩) n cap) n xs → (∀ p ∈ l, p.1 < n * size) → (ScrN.puts g l w).ownsRow base e size (.slice (some ⟨g, 0, none⟩) n cap) n (l.foldl (fun xs p => xs.set p.1 p.2) xs)
  | [], w, xs, h, _ => h
  | p :: l, w, xs, h, hl => puts_own_set (w := w) l _ _ (own_set h p.2 (hl p (List.mem_cons_self ..))) (fun q hq => hl q (List.mem_cons_of_mem _ hq))
/-- The cells of an instruction, each with its place. -/
abbrev iput (j : Nat) (x : I5) : List (Nat × Value) := [(j * 5, .int .i64 x.op), (j * 5 + 1, .int .i64 x.a), (j * 5 + 2, .int .i64 x.b), (j * 5 + 3, .int .i64 x.c), (j * 5 + 4, .int .i64 x.i)]
theorem cellsI_put : ∀ (ps : List I5) (k : Nat) (x : I5), k < ps.length → (iput k x).foldl (fun xs p => xs.set p.1 p.2) (cellsI ps) = cellsI (ps.set k x)
  | [], k, x, h => by simp at h
  | a :: r, 0, x, h => by
    rw [List.set_cons_zero, cellsI_cons, cellsI_cons]
    rfl
  | a :: r, k + 1, x, h => by
    have ih := cellsI_put r k x (by simpa using h)
    have hs : ∀ (l : List Value) (j : Nat) (u : Value), ([Value.int .i64 a.op, Value.int .i64 a.a, Value.int .i64 a.b, Value.int .i64 a.c, Value.int .i64 a.i] ++ l).set ((k + 1) * 5 + j) u = [Value.int .i64 a.op, Value.int .i64 a.a, Value.int .i64 a.b, Value.int .i64 a.c, Value.int .i64 a.i] ++ l.set (k * 5 + j) u := fun l j u => by
      rw [List.set_append_right _ _ (by simp; omega)]
      congr 2
      simp
      omega
    have hs0 := fun l u => hs l 0 u
    simp only [Nat.add_zero] at hs0
    rw [List.set_cons_succ, cellsI_cons, cellsI_cons, ← ih]
    simp only [List.foldl_cons, List.foldl_nil]
    rw [hs0, hs, hs, hs, hs]
/-- An instruction of a program is changed. -/
theorem fin_prog {w0 w : World} {vi vp vk : Value} {i0 n nk gs m k j : Nat} {xs vs ks : List Value} {ps : List (List I5)} {zs : List Int} {q : Cfg} (hn : n ≤ 3) (h : SM w0 q n m nk vi vp vk i0 xs vs ps ks zs w) (hm : Mem w gs TS (scells q vi vp vk)) (hg0 : w0.heap.size ≤ gs) {p : List I5} (hp : ps[k]? = some p) (hj : j < p.length) {g c : Nat} (hv : vs[k]? = some (.slice (some ⟨g, 0, none⟩) p.length c)) (x : I5) (hx : OkI x) :
    Fin w0 gs (ScrN.puts g (iput j x) w) := by
  have hr := sm_rs hn h
  obtain ⟨A1, c1, e1, ho, _, _, hok⟩ := h.pv.row k p hp
  rw [hv] at e1
  injection e1 with e1
  injection e1 with e1 e2 e3
  subst e1 e3
  obtain ⟨g', c', cur, e, h0, hh, _, _⟩ := own_cells ho (by omega)
  injection e with e1 e2 e3
  injection e1 with e1
  injection e1 with e1
  subst e1
  have hmg : Mem w g 31 cur := hh
  have hne : gs ≠ g := fun e => by
    subst e
    rw [Mem, hmg] at hm
    injection hm with hm
    injection hm with _ hm
    exact absurd hm (by decide)
  have hkl : k < ps.length := (List.getElem?_eq_some_iff.1 hp).1
  have hro := puts_own_set (w := w) (iput j x) w _ ho (by
    intro y hy
    simp at hy
    rcases hy with rfl | rfl | rfl | rfl | rfl <;> simp <;> omega)
  rw [cellsI_put p j x hj] at hro
  have hrw : RW w0.heap.size (ScrN.puts g (iput j x) w) vs (ps.set k (p.set j x)) := by
    refine ⟨by simp [h.pv.len], fun i r hi => ?_⟩
    by_cases e : i = k
    · subst e
      rw [List.getElem?_set_self hkl] at hi
      injection hi with hi
      subst hi
      refine ⟨some ⟨g, 0, none⟩, c, by simpa using hv, by simpa using hro, fun y hy => ?_⟩
      rcases List.mem_or_eq_of_mem_set hy with hy | rfl
      · exact hok y hy
      · exact hx
    · rw [List.getElem?_set_ne (Ne.symm e)] at hi
      obtain ⟨A2, c2, h1, h2, _, _, h3⟩ := h.pv.row i r hi
      exact ⟨A2, c2, h1, puts_own h2 (fun hb => h.pv.two i k _ _ g e h1 hv hb rfl) _, h3⟩
  refine fin_of (q := q) (np := n) (vs := vs) (ps := ps.set k (p.set j x)) ⟨puts_below h0 _ hr.bel, puts_own hr.ini (own_ne_mem hr.ini hmg (by decide)) _, puts_own hr.pro (own_ne_mem hr.pro hmg (by decide)) _, hrw, puts_own hr.pic (own_ne_mem hr.pic hmg (by decide)) _, hr.wf⟩ ((puts_block hne _ w).trans hm)
/-- A made script is valid. -/
theorem csV_made {q : Cfg} (hq : chkV q = 0) {n i0 : Nat} (h1 : 1 ≤ n) (h3 : n ≤ 3) {ps : List (List I5)} (hl : ps.length = n) (hp : ∀ p ∈ ps, refChk p = (0, 0)) (hi : (i0 : Int) = q.w) {zs : List Int} (hz : ∀ z ∈ zs, 0 ≤ z ∧ z < n) (hzl : zs.length ≤ 65536) : csV ⟨q, i0, ps, zs⟩ = (0, 0, 0) := by
  have hpr : ∀ (l : List (List I5)) (t : Nat), (∀ p ∈ l, refChk p = (0, 0)) → prGo l t = none := by
    intro l
    induction l with
    | nil => intro t _; rfl
    | cons a r ih =>
      intro t hl
      unfold prGo
      rw [if_neg (by rw [hl a (List.mem_cons_self ..)]; decide)]
      exact ih _ (fun p hp => hl p (List.mem_cons_of_mem _ hp))
  have hpk : ∀ (l : List Int) (t : Nat), (∀ z ∈ l, 0 ≤ z ∧ z < n) → pkGo n l t = (0, 0) := by
    intro l
    induction l with
    | nil => intro t _; rfl
    | cons a r ih =>
      intro t hl
      unfold pkGo
      have := hl a (List.mem_cons_self ..)
      rw [if_pos (by omega)]
      exact ih _ (fun p hp => hl p (List.mem_cons_of_mem _ hp))
  unfold csV
  simp only
  rw [if_neg (by omega), if_neg (by omega), if_neg (by omega), hpr ps 0 hp]
  unfold endV
  simp only
  unfold pkV
  rw [if_neg (by omega), hl, hpk zs 0 hz]
theorem Fin.drew {w0 w : World} {gs : Nat} (h : Fin w0 gs w) : Fin w0 gs w.drew := by
  obtain ⟨s, Ai, ci, Ap, np, cp, Ak, nk, ck, h1, h2, h3⟩ := h
  exact ⟨s, Ai, ci, Ap, np, cp, Ak, nk, ck, h1, h2.old ⟨Nat.le_refl _, fun _ _ => rfl⟩, below_drewN h3 1⟩
/-- A list of zeros in the picks' place. -/
theorem fin_zeros {w0 w : World} {vi vp vk : Value} {i0 np nk gs m : Nat} {xs vs : List Value} {ps : List (List I5)} {zs : List Int} {q : Cfg} (h : RS3 w0 vi vp vk i0 np nk xs vs ps zs w) (hm : Mem w gs TS (scells q vi vp vk)) (hg : w0.heap.size ≤ gs) (m0 : 0 < m) (hml : m ≤ maxLen) :
    Fin w0 gs ((w.alloc (.cells (Array.replicate m (.int .i64 0)) 3)).setCell ⟨gs, 15, none⟩ (.slice (some ⟨w.heap.size, 0, none⟩) m m)) := by
  have hb := below_new w (.cells (Array.replicate m (.int .i64 0)) 3)
  have hr := h.below hb
  have hm1 : Mem (w.alloc (.cells (Array.replicate m (.int .i64 0)) 3)) gs TS (scells q vi vp vk) := hm.below hb hm.lt
  have hp : (w.alloc (.cells (Array.replicate m (.int .i64 0)) 3)).ownsRow w0.heap.size 3 1 (.slice (some ⟨w.heap.size, 0, none⟩) m m) m ((List.replicate m 0).map (Value.int .i64)) := by
    refine ⟨by simp, .inr ⟨w.heap.size, m, Array.replicate m (.int .i64 0), rfl, h.bel.size, Mem.new w _ _, Nat.le_refl _, hml, by simp, by simp⟩⟩
  have hr2 : RS3 w0 vi vp (.slice (some ⟨w.heap.size, 0, none⟩) m m) i0 np m xs vs ps (List.replicate m 0) (w.alloc (.cells (Array.replicate m (.int .i64 0)) 3)) :=
    ⟨hr.bel, hr.ini, hr.pro, hr.rw, hp, fun z hz => by rw [(List.mem_replicate.1 hz).2]; decide⟩
  exact fin_of (q := q) (hr2.puts hm1 hg [(15, .slice (some ⟨w.heap.size, 0, none⟩) m m)]) (puts_mem [(15, .slice (some ⟨w.heap.size, 0, none⟩) m m)] _ _ hm1)
/-- The length of the row in cell 14 of block g. -/
def lenAt (g : Nat) (w : World) : Nat := match w.cell? ⟨g, 14, none⟩ with
  | some (.slice _ n _) => n
  | _ => 0
theorem lenAt_of {w : World} {g n c : Nat} {A : Option Addr} {q : Cfg} {vi vk : Value} (h : Mem w g TS (scells q vi (.slice A n c) vk)) : lenAt g w = n := by
  unfold lenAt
  rw [h.cell 14]
  rfl
end Go.Proofs.YthnhmclnfgkppaaDoor.ScrQ
