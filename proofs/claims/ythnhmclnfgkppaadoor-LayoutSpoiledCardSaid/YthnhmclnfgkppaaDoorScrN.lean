/-
  Toward strongtxmake's Script: its loops.
-/
import Derived.Test.YthnhmclnfgkppaaDoorScrM
import Derived.Test.YthnhmclnfgkppaaDoorPrgY
import Derived.Test.YthnhmclnfgkppaaDoorLayP
import Derived.Test.YthnhmclnfgkppaaDoorLayD
import Derived.Deep.DeepCutAuto
import Derived.Deep.CutBlock
import Derived.Deep.RegionLaw
namespace Go.Proofs.YthnhmclnfgkppaaDoor.ScrN
open Go.ChangeShapes Go.WideShapes Go.ChangeAt Go.RowKit
open PlainT BlkW LawFrame IsaF PrgS PrgC PrgI PrgG PrgL Go.Proofs.YthnhmclnfgkppaaDoor.Own OwnS PrgZ LayS LayA ScrP ScrM PrgY
set_option linter.unusedVariables false
set_option maxHeartbeats 4000000
set_option maxRecDepth 100000
section
variable {P : Program} {ops : Array Oper} {o : Oper} {a : Act} {w : World} {K : Act → World → Prop} {Q : Exit → Act → World → Prop} {E : Prop}
/-- An append in a region that draws, by its run. -/
theorem step_push (hg : o.guard = none) (s x : Operand) (t : TypeId) (hop : o.op = Op.call { callee := Callee.builtin Builtin.append, args := #[s, x], argTypes := #[t, t] })
    (vs vx v : Value) (w' : World) (hs : a.eval s = vs) (hx : a.eval x = vx) (hrun : (Builtin.append_ #[t, t] o.type #[vs, vx]).run P w = .ok v w')
    (hK : K (a.put o.dst v) w') : if Region.wanted o (yielded ops a.tmps) = true then Oper.wp P o a w K Q else E := by
  have hw : Region.wanted o (yielded ops a.tmps) = true := by simp [Region.wanted, hg]
  rw [if_pos hw]
  unfold Oper.wp
  simp [execOp, hop, resolve, invoke, builtin, hs, hx, hrun, Result.andThen]
  exact hK
end
/-- Stores into one block. -/
def puts (b : Nat) (l : List (Nat × Value)) (w : World) : World := l.foldl (fun w p => w.setCell ⟨b, p.1, none⟩ p.2) w
theorem puts_mem {b : Nat} {T : TypeId} : ∀ (l : List (Nat × Value)) (w : World) (cs : Array Value), Mem w b T cs → Mem (puts b l w) b T (l.foldl (fun cs p => cs.setIfInBounds p.1 p.2) cs)
  | [], w, cs, h => h
  | p :: l, w, cs, h => puts_mem l _ _ (h.set_ p.1 p.2)
theorem puts_block {b g : Nat} (hg : g ≠ b) : ∀ (l : List (Nat × Value)) (w : World), (puts b l w).heap[g]? = w.heap[g]?
  | [], w => rfl
  | p :: l, w => (puts_block hg l _).trans (Below.heap_setCell w ⟨b, p.1, none⟩ p.2 g (fun e => hg e))
theorem puts_below {b B : Nat} (hb : B ≤ b) : ∀ (l : List (Nat × Value)) {w0 w : World}, Below B w0 w → Below B w0 (puts b l w)
  | [], _, _, h => h
  | p :: l, _, _, h => puts_below hb l (h.setCell (by show B ≤ b; exact hb) p.2)
theorem puts_own {b B size n : Nat} {e : TypeId} {v : Value} {xs : List Value} {w : World} (h : w.ownsRow B e size v n xs) (hb : v.ownBlock ≠ some b) (l : List (Nat × Value)) : (puts b l w).ownsRow B e size v n xs :=
  own_of_block h fun g hg => puts_block (fun e => hb (by rw [hg, e])) l w
/-- The cells of a script, each with its place. -/
abbrev sput (q : Cfg) (a b c : Value) : List (Nat × Value) := [(0, .int .i64 q.w), (1, .int .i64 q.o), (2, .int .i64 q.b), (3, .int .i64 q.c0), (4, .int .i64 q.c1), (5, .int .i64 q.c2), (6, .int .i64 q.c3), (7, .int .i64 q.r), (8, .int .i64 q.t), (9, .int .i64 q.a), (10, .int .i64 q.f), (11, .int .i64 q.k), (12, .bool q.s), (13, a), (14, b), (15, c)]
theorem sput_cells (q q' : Cfg) (a b c a' b' c' : Value) : (sput q a b c).foldl (fun (cs : Array Value) p => cs.setIfInBounds p.1 p.2) (scells q' a' b' c') = scells q a b c := by
  simp only [List.foldl_cons, List.foldl_nil, List.setIfInBounds_toArray, List.set_cons_succ, List.set_cons_zero]
theorem puts_end {w : World} {g : Nat} {q : Cfg} {q' : Cfg} {a' b' c' : Value} (a b c : Value) (h : Mem w g TS (scells q' a' b' c')) : Mem (puts g (sput q a b c) w) g TS (scells q a b c) := (sput_cells q q' a b c a' b' c') ▸ puts_mem (sput q a b c) w _ h
/-- A row of rows of integers that came in as an argument. -/
def LL (w : World) (A : Option Addr) (n : Nat) : Prop := ∀ i, i < n → ∃ b off Ai ni ci zi, A = some ⟨b, off, none⟩ ∧ b < w.heap.size ∧ w.cell? ⟨b, off + i, none⟩ = some (.slice Ai ni ci) ∧ ni ≤ ci ∧ ci ≤ maxLen ∧ Ints .i64 w Ai ni zi
/-- The rows of the programs: each the call's own, no two in one block. -/
structure PV (B m : Nat) (w : World) (vs : List Value) (ps : List (List I5)) : Prop where
  len : vs.length = ps.length
  row : ∀ (i : Nat) p, ps[i]? = some p → ∃ A c, vs[i]? = some (.slice A p.length c) ∧ w.ownsRow B 31 5 (.slice A p.length c) p.length (cellsI p) ∧ p.length ≤ m ∧ refChk p = (0, 0) ∧ ∀ x ∈ p, OkI x
  two : ∀ (i j : Nat) (v u : Value) (g : Nat), i ≠ j → vs[i]? = some v → vs[j]? = some u → v.ownBlock = some g → u.ownBlock ≠ some g
theorem PV.map {B m : Nat} {w w' : World} {vs : List Value} {ps : List (List I5)} (h : PV B m w vs ps) (k : ∀ v n xs, w.ownsRow B 31 5 v n xs → w'.ownsRow B 31 5 v n xs) : PV B m w' vs ps :=
  ⟨h.len, fun i p hi => by obtain ⟨A, c, h1, h2, h3⟩ := h.row i p hi; exact ⟨A, c, h1, k _ _ _ h2, h3⟩, h.two⟩
theorem PV.old {B m : Nat} {w w' : World} {vs : List Value} {ps : List (List I5)} (h : PV B m w vs ps) (k : Old w w') : PV B m w' vs ps := h.map fun _ _ _ h2 => own_old h2 k
theorem PV.push {B m : Nat} {w0 w w' : World} {vs : List Value} {ps : List (List I5)} {A : Option Addr} {c : Nat} {p : List I5} (h : PV B m w vs ps) (hB : B ≤ w0.heap.size) (hw : w.heap.size ≤ w0.heap.size) (k : Old w w') (g : PrgY.Good w0 w' m A c p) : PV B m w' (vs ++ [.slice A p.length c]) (ps ++ [p]) := by
  have h' := h.old k
  have hnew : ∀ g', (Value.slice A p.length c).ownBlock = some g' → w0.heap.size ≤ g' := fun g' hg' => (g.2.2.2.lt g' hg').1
  have hold : ∀ (i : Nat) v g', vs[i]? = some v → v.ownBlock = some g' → g' < w.heap.size := by
    intro i v g' hv hg'
    have hl : i < ps.length := by rw [← h.len]; exact (List.getElem?_eq_some_iff.1 hv).1
    obtain ⟨A1, c1, h1, h2, _⟩ := h.row i ps[i] (List.getElem?_eq_getElem hl)
    rw [hv] at h1
    injection h1 with h1
    subst h1
    exact (h2.lt g' hg').2
  refine ⟨by simp [h.len], fun i q hi => ?_, fun i j v u g' hne hv hu hg' => ?_⟩
  · by_cases e : i < ps.length
    · rw [List.getElem?_append_left e] at hi
      obtain ⟨A1, c1, h1, h2⟩ := h'.row i q hi
      exact ⟨A1, c1, by rw [List.getElem?_append_left (by rw [h.len]; exact e)]; exact h1, h2⟩
    · rw [List.getElem?_append_right (by omega)] at hi
      have e2 : i - ps.length = 0 := by
        have := (List.getElem?_eq_some_iff.1 hi).1
        simp at this
        omega
      rw [e2] at hi
      injection hi with hi
      subst hi
      refine ⟨A, c, ?_, own_mono g.2.2.2 hB, g.1, g.2.1, g.2.2.1⟩
      rw [List.getElem?_append_right (by rw [h.len]; omega), h.len, e2]
      rfl
  · have hi : i < vs.length ∨ i = vs.length := by
      have := (List.getElem?_eq_some_iff.1 hv).1
      simp at this
      omega
    have hj : j < vs.length ∨ j = vs.length := by
      have := (List.getElem?_eq_some_iff.1 hu).1
      simp at this
      omega
    rcases hi with hi | rfl
    · rw [List.getElem?_append_left hi] at hv
      rcases hj with hj | rfl
      · rw [List.getElem?_append_left hj] at hu
        exact h.two i j v u g' hne hv hu hg'
      · rw [List.getElem?_append_right (Nat.le_refl _), Nat.sub_self] at hu
        injection hu with hu
        subst hu
        intro he
        have h1 := hnew g' he
        have h2 := hold i v g' hv hg'
        omega
    · rw [List.getElem?_append_right (Nat.le_refl _), Nat.sub_self] at hv
      injection hv with hv
      subst hv
      rcases hj with hj | rfl
      · rw [List.getElem?_append_left hj] at hu
        intro he
        have h1 := hnew g' hg'
        have h2 := hold j u g' hu he
        omega
      · exact absurd rfl hne
/-- What is held while a program is made. -/
def RR (B m i0 t : Nat) (xs vs : List Value) (ps : List (List I5)) (vi vp : Value) (Ar : Option Addr) (nr : Nat) (zr : List Int) (W : World) : Prop := W.ownsRow B 55 1 vi i0 xs ∧ W.ownsRow B 24 1 vp t vs ∧ PV B m W vs ps ∧ Ints .i64 W Ar nr zr
theorem RR.old {B m i0 t : Nat} {xs vs : List Value} {ps : List (List I5)} {vi vp : Value} {Ar : Option Addr} {nr : Nat} {zr : List Int} {W W' : World} (h : RR B m i0 t xs vs ps vi vp Ar nr zr W) (k : Old W W') : RR B m i0 t xs vs ps vi vp Ar nr zr W' := ⟨own_old h.1 k, own_old h.2.1 k, h.2.2.1.old k, ints_old h.2.2.2 k⟩
abbrev SR (w0 : World) (q : Cfg) (m i0 t : Nat) (xs vs : List Value) (ps : List (List I5)) (vi vp : Value) (Ar : Option Addr) (nr : Nat) (zr : List Int) (W : World) : Prop := SB w0 q vi vp nilV W ∧ RR w0.heap.size m i0 t xs vs ps vi vp Ar nr zr W
theorem sr_keep {w0 : World} {q : Cfg} {m i0 t : Nat} {xs vs : List Value} {ps : List (List I5)} {vi vp : Value} {Ar : Option Addr} {nr : Nat} {zr : List Int} {W W' : World} (h : SR w0 q m i0 t xs vs ps vi vp Ar nr zr W) (hb : Below W.heap.size W W') : SR w0 q m i0 t xs vs ps vi vp Ar nr zr W' :=
  ⟨⟨h.1.1.below hb h.1.1.lt, h.1.2.1.below hb h.1.2.1.lt, h.1.2.2.1.below hb h.1.2.2.1.lt, h.1.2.2.2.trans (hb.mono h.1.2.2.2.size)⟩, h.2.old (.of_below hb)⟩
theorem sr_drew {w0 : World} {q : Cfg} {m i0 t : Nat} {xs vs : List Value} {ps : List (List I5)} {vi vp : Value} {Ar : Option Addr} {nr : Nat} {zr : List Int} {W : World} (h : SR w0 q m i0 t xs vs ps vi vp Ar nr zr W) : SR w0 q m i0 t xs vs ps vi vp Ar nr zr W.drew := ⟨⟨h.1.1, h.1.2.1, h.1.2.2.1, below_drewN h.1.2.2.2 1⟩, h.2.old ⟨Nat.le_refl _, fun _ _ => rfl⟩⟩
theorem sr_ints {w0 : World} {q : Cfg} {m i0 t : Nat} {xs vs : List Value} {ps : List (List I5)} {vi vp : Value} {Ar : Option Addr} {nr : Nat} {zr : List Int} {W : World} (h : SR w0 q m i0 t xs vs ps vi vp Ar nr zr W) : Ints .i64 W Ar nr zr := h.2.2.2.2
/-- The boxes, the numbers' row, the programs' row and the programs. -/
def SQ (w0 : World) (q : Cfg) (m i0 t : Nat) (xs vs : List Value) (ps : List (List I5)) (vi vp vk : Value) (W : World) : Prop := SB w0 q vi vp vk W ∧ W.ownsRow w0.heap.size 55 1 vi i0 xs ∧ W.ownsRow w0.heap.size 24 1 vp t vs ∧ PV w0.heap.size m W vs ps
/-- A program has been made and is put at the end of the row of programs. -/
theorem sr_push {w0 : World} {q : Cfg} {m i0 t : Nat} {xs vs : List Value} {ps : List (List I5)} {vi vp : Value} {Ar : Option Addr} {nr : Nat} {zr : List Int} {W1 W2 : World} {A9 : Option Addr} {c9 : Nat} {p9 : List I5} (h : SR w0 q m i0 t xs vs ps vi vp Ar nr zr W1) (ht : t ≤ 100) (g : PrgY.Good W1 W2 m A9 c9 p9) (hb : Below W1.heap.size W1 W2) :
    ∃ A c w3, (Builtin.append_ #[48, 48] 48 #[vp, .slice (some ⟨W2.heap.size, 0, none⟩) 1 1]).run Tryd.prog (W2.alloc (.cells #[.slice A9 p9.length c9] 24)) = .ok (.slice A (t + 1) c) w3 ∧
      w3.cell? ⟨w0.heap.size + 2, 14, none⟩ = some vp ∧ w3.frozen? ⟨w0.heap.size + 2, 14, none⟩ = false ∧ SQ w0 q m i0 (t + 1) xs (vs ++ [.slice A9 p9.length c9]) (ps ++ [p9]) vi (.slice A (t + 1) c) nilV (w3.setCell ⟨w0.heap.size + 2, 14, none⟩ (.slice A (t + 1) c)) := by
  have h2 := sr_keep h hb
  have hsz : w0.heap.size ≤ W2.heap.size := by have := h2.1.size; omega
  have hpv := h.2.2.2.1.push (by have := h.1.size; omega) (Nat.le_refl _) (.of_below hb) g
  obtain ⟨A, c, w3, hrun, hown3, hb3, hk3, hkk3⟩ := push_p (B := w0.heap.size) hsz h2.2.2.1 (by omega) A9 p9.length c9
  have hs3 := SB.keep h2.1 hb3 (fun g h1 h2' => hkk3 g (by have := h2.1.size; omega) (SB.row h2.1 h2.2.2.1 (by decide) (by decide) g h1 h2'))
  have hpv3 := hpv.map (fun v n xs ho => hk3 _ _ _ _ _ (by decide) ho)
  have hu3 := hk3 _ _ _ _ _ (by decide) h2.2.1
  exact ⟨A, c, w3, hrun, hs3.2.2.1.cell 14, hs3.2.2.1.frozen 14, hs3.b _, SB.far hs3 hu3 (by decide) 14 _, SB.far hs3 hown3 (by decide) 14 _, hpv3.map (fun v n xs ho => SB.far hs3 ho (by decide) 14 _)⟩
/-- One pick more. -/
theorem sq_push {w0 : World} {q : Cfg} {m i0 t : Nat} {xs vs ks : List Value} {ps : List (List I5)} {vi vp vk : Value} {n : Nat} {W : World} (h : SQ w0 q m i0 t xs vs ps vi vp vk W) (hk : W.ownsRow w0.heap.size 3 1 vk n ks) (hn : n ≤ 300000) (z : Int) :
    ∃ A c w3, (Builtin.append_ #[22, 22] 22 #[vk, .slice (some ⟨W.heap.size, 0, none⟩) 1 1]).run Tryd.prog (W.alloc (.cells #[.int .i64 z] 3)) = .ok (.slice A (n + 1) c) w3 ∧
      w3.cell? ⟨w0.heap.size + 2, 15, none⟩ = some vk ∧ w3.frozen? ⟨w0.heap.size + 2, 15, none⟩ = false ∧ SQ w0 q m i0 t xs vs ps vi vp (.slice A (n + 1) c) (w3.setCell ⟨w0.heap.size + 2, 15, none⟩ (.slice A (n + 1) c)) ∧ (w3.setCell ⟨w0.heap.size + 2, 15, none⟩ (.slice A (n + 1) c)).ownsRow w0.heap.size 3 1 (.slice A (n + 1) c) (n + 1) (ks ++ [.int .i64 z]) := by
  obtain ⟨h1, h2, h3, h4⟩ := h
  have hsz : w0.heap.size ≤ W.heap.size := by have := h1.size; omega
  obtain ⟨A, c, w3, hrun, hown3, hb3, hk3, hkk3⟩ := push_j (B := w0.heap.size) hsz hk hn z
  have hs3 := SB.keep h1 hb3 (fun g a1 a2 => hkk3 g (by have := h1.size; omega) (SB.row h1 hk (by decide) (by decide) g a1 a2))
  exact ⟨A, c, w3, hrun, hs3.2.2.1.cell 15, hs3.2.2.1.frozen 15, ⟨hs3.c _, SB.far hs3 (hk3 _ _ _ _ _ (by decide) h2) (by decide) 15 _, SB.far hs3 (hk3 _ _ _ _ _ (by decide) h3) (by decide) 15 _, (h4.map (fun v n xs ho => hk3 _ _ _ _ _ (by decide) ho)).map (fun v n xs ho => SB.far hs3 ho (by decide) 15 _)⟩, SB.far hs3 hown3 (by decide) 15 _⟩
theorem SQ.drew {w0 : World} {q : Cfg} {m i0 t : Nat} {xs vs : List Value} {ps : List (List I5)} {vi vp vk : Value} {W : World} (h : SQ w0 q m i0 t xs vs ps vi vp vk W) : SQ w0 q m i0 t xs vs ps vi vp vk W.drew := ⟨⟨h.1.1, h.1.2.1, h.1.2.2.1, below_drewN h.1.2.2.2 1⟩, h.2.1, h.2.2.1, h.2.2.2.old ⟨Nat.le_refl _, fun _ _ => rfl⟩⟩
/-- Picks: each a thread's number. -/
def PK (n : Nat) (ks : List Value) (zs : List Int) : Prop := ks = zs.map (Value.int .i64) ∧ ∀ z ∈ zs, 0 ≤ z ∧ z < n
theorem PK.push {n : Nat} {ks : List Value} {zs : List Int} (h : PK n ks zs) {z : Int} (h0 : 0 ≤ z) (h1 : z < n) : PK n (ks ++ [.int .i64 z]) (zs ++ [z]) := by
  refine ⟨by rw [h.1]; simp, fun y hy => ?_⟩
  rcases List.mem_append.1 hy with hy | hy
  · exact h.2 y hy
  · rw [List.mem_singleton.1 hy]
    exact ⟨h0, h1⟩
/-- What Script returns: rows of the call's own. -/
structure SM (w0 : World) (q : Cfg) (n m nk : Nat) (vi vp vk : Value) (i0 : Nat) (xs vs : List Value) (ps : List (List I5)) (ks : List Value) (zs : List Int) (w : World) : Prop where
  bel : Below w0.heap.size w0 w
  ini : w.ownsRow w0.heap.size 55 1 vi i0 xs
  len : (i0 : Int) = q.w
  pro : w.ownsRow w0.heap.size 24 1 vp n vs
  pv : PV w0.heap.size m w vs ps
  pn : ps.length = n
  pic : w.ownsRow w0.heap.size 3 1 vk nk ks
  pk : PK n ks zs
theorem k_script (q : Cfg) (hq : 4 ≤ q.w ∧ q.w ≤ 12) (n : Nat) (h1 : 1 ≤ n) (h2 : n ≤ 3) (Al : Option Addr) (nl cl : Nat) (m : Nat) (hm : m ≤ 60) (hm2 : 2 ≤ m) (heap plain : Bool) (Ak : Option Addr) (nk ck : Nat) (hnk : nk ≤ 200000) (zk : List Int) (w : World) (hl : LL w Al nl) (hk : Ints .i64 w Ak nk zk) :
    Calls Tryd.prog 17 #[cfgV q, .int .i64 n, .slice Al nl cl, .int .i64 m, .bool heap, .bool plain, .slice Ak nk ck] w fun e w' => ∃ vi vp vk i0 xs vs ps ks zs, e = .returned (scrV q vi vp vk) ∧ SM w q n m nk vi vp vk i0 xs vs ps ks zs w' := by
  have HLL := Lib.hid hl
  have HKK := Lib.hid hk
  clear hl hk
  go_enter Tryd.func17, Tryd.ntmps17
  have hsb := sb_new w q
  go_upto_block 0 with fail
  go_cut [16] (fun iv wc => ∃ (i : Nat) (xs : List Value) (A : Option Addr) (c : Nat), (i : Int) = q.w ∧ Hid (SB w q (.slice A i c) nilV nilV wc) ∧ Hid (wc.ownsRow w.heap.size 55 1 (.slice A i c) i xs))
  case first =>
    go_wp2
    go_loopw [16] (fun iv wr => ∃ (i : Nat) (xs : List Value) (A : Option Addr) (c : Nat), iv = .int .i64 i ∧ (i : Int) ≤ q.w ∧ SB w q (.slice A i c) nilV nilV wr ∧ wr.ownsRow w.heap.size 55 1 (.slice A i c) i xs) (fun iv _ => (q.w - intOf iv).toNat)
    case atStart => exact ⟨0, [], none, 0, rfl, by omega, hsb, World.ownsRow_nil _ _ _ _⟩
    case round =>
      obtain ⟨i, xs, A, c, rfl, hi, hs, ho⟩ := hrel
      have HS := Lib.hid hs
      have HO := Lib.hid ho
      have hsz := hs.size
      obtain ⟨d0, _⟩ := box_cells hs.1
      clear hsb ho
      by_cases hiw : (i : Int) < q.w
      · obtain ⟨_, _, _, _, _, _, _, _, _, _, _, _, _, d13, _⟩ := sbox_cells hs.2.2.1
        obtain ⟨A1, c1, w1, hrun, hown1, hb1, hk1, hkk⟩ := push_u (B := w.heap.size) (by omega) HO.out (by omega) ((i : Int) % 4)
        have hs1 := SB.keep HS.out hb1 (fun g h1 h2 => hkk g (by omega) (SB.row HS.out HO.out (by decide) (by decide) g h1 h2))
        have hf1 := hs1.2.2.1.frozen 13
        have hsz1 := hs1.size
        obtain ⟨_, _, _, _, _, _, _, _, _, _, _, _, _, e13, _⟩ := sbox_cells hs1.2.2.1
        have HRUN := Lib.hid hrun
        have HS1 := Lib.hid hs1
        have HO1 := Lib.hid hown1
        clear hrun hs1 hown1 hk1 hkk hb1 hs
        go_wp2_with (at_builtin; refine wpList_append_run rfl _ _ _ rfl HRUN.out (by rfl) (by rfl) ?_)
        go_roundw
        case rel => exact ⟨i + 1, xs ++ [.int .u64 ((i : Int) % 4)], A1, c1, by go_num, by omega, HS1.out.a _, SB.far HS1.out HO1.out (by decide) 13 _⟩
        case measure => simp [intOf]; omega
      · go_wp2
        all_goals go_meet
        all_goals exact ⟨i, xs, A, c, by omega, HS, HO⟩
  case rest =>
    obtain ⟨i0, xs, Ai, ci, hi0, HS0, HO0⟩ := hcut
    clear hsb
    go_upto_block 2 with fail
    go_cut [17, 18] (fun tv rv wc => ∃ (vs : List Value) (ps : List (List I5)) (A : Option Addr) (c : Nat), ps.length = n ∧ Hid (SQ w q m i0 n xs vs ps (.slice Ai i0 ci) (.slice A n c) nilV wc))
    case first =>
      go_wp2
      go_loopw [17, 18] (fun tv rv wr => ∃ (t : Nat) (vs : List Value) (ps : List (List I5)) (A : Option Addr) (c : Nat), tv = .int .i64 t ∧ t ≤ n ∧ ps.length = t ∧ Hid (SQ w q m i0 t xs vs ps (.slice Ai i0 ci) (.slice A t c) nilV wr)) (fun tv _ _ => n - (intOf tv).toNat)
      case atStart => exact ⟨0, [], [], none, 0, rfl, by omega, rfl, Lib.hid ⟨HS0.out, HO0.out, World.ownsRow_nil _ _ _ _, ⟨rfl, fun i p h => by simp at h, fun i j v u g _ h => by simp at h⟩⟩⟩
      case round =>
        obtain ⟨t, vs, ps, A, c, rfl, ht, hpl, HS⟩ := hrel
        have hsz := HS.out.1.size
        by_cases htn : t < n
        · go_upto_if 44 with fail
          go_cut [18] (fun rv wc => wc = wr ∧ ∃ (Ar : Option Addr) (nr cr : Nat) (zr : List Int), rv = .slice Ar nr cr ∧ nr ≤ cr ∧ cr ≤ maxLen ∧ Hid (Ints .i64 wr Ar nr zr))
          case first =>
            by_cases hnl : t < nl
            · obtain ⟨b, off, Ar, nr, cr, zr, rfl, hb, hc, h3, h4, h5⟩ := HLL.out t hnl
              have hc2 : wr.cell? ⟨b, off + t, none⟩ = some (.slice Ar nr cr) := by rw [World.cell?_of_block (w := w) (HS.out.1.2.2.2.block b hb)]; exact hc
              have HI := Lib.hid (ints_old h5 (Old.of_below HS.out.1.2.2.2))
              clear hc h5
              go_wp2
              all_goals go_meet
              all_goals exact ⟨rfl, Ar, nr, cr, zr, rfl, h3, h4, HI⟩
            · go_wp2
              all_goals go_meet
              all_goals exact ⟨rfl, none, 0, 0, [], rfl, by omega, by unfold maxLen; omega, Lib.hid ⟨rfl, by simp, fun h => absurd h (by omega)⟩⟩
          case rest =>
            obtain ⟨rfl, Ar, nr, cr, zr, rfl, h3, h4, HI⟩ := hcut
            have hsr : SR w q m i0 t xs vs ps (.slice Ai i0 ci) (.slice A t c) Ar nr zr wc.drew := sr_drew ⟨HS.out.1, HS.out.2.1, HS.out.2.2.1, HS.out.2.2.2, HI.out⟩
            have HSR := Lib.hid hsr
            obtain ⟨d0, d1, d2, d3, d4, d5, d6, d7, d8, d9, d10, d11, d12⟩ := box_cells (show Mem wc w.heap.size TC (cells q) from hsr.1.1)
            have s14 : wc.drew.cell? ⟨w.heap.size + 1 + 1, 14, none⟩ = some (.slice A t c) := hsr.1.2.2.1.cell 14
            have s14w : wc.cell? ⟨w.heap.size + 1 + 1, 14, none⟩ = some (.slice A t c) := hsr.1.2.2.1.cell 14
            have ht100 : t ≤ 100 := by omega
            clear hsr HS
            cases heap with
            | false =>
              go_upto_region 12 with fail
              first | go_region_law (first
                | (go_simp; go_at_call 8; (with_reducible refine (PrgY.k_program Ar nr cr zr m _ plain _ h3 h4 hm hm2 (by exact sr_ints HSR.out)).mono ?_); rintro e w2 ⟨A9, c9, p9, rfl, hg, hb2⟩; obtain ⟨A1, c1, w3, hrun, hc14, hf14, hsq⟩ := sr_push HSR.out ht100 hg hb2; have hd14 : w3.cell? ⟨w.heap.size + 1 + 1, 14, none⟩ = some (.slice A t c) := hc14; have hg14 : w3.frozen? ⟨w.heap.size + 1 + 1, 14, none⟩ = false := hf14; have HSQ := Lib.hid hsq; have hsz2 : w.heap.size + 2 < w2.heap.size := (sr_keep HSR.out hb2).1.size; have s14'' : w2.cell? ⟨w.heap.size + 1 + 1, 14, none⟩ = some (.slice A t c) := (sr_keep HSR.out hb2).1.2.2.1.cell 14; clear hsq hg hb2)
                | (refine step_push rfl _ _ 48 rfl _ _ _ _ rfl rfl hrun ?_)) | fail
              all_goals
                clear hrun hc14 hf14 hd14 hg14
                go_wp2_with fail
                go_roundw
                case rel => exact ⟨t + 1, _, _, A1, c1, by go_num, by omega, by simp [hpl], HSQ⟩
                case measure => simp [intOf]; omega
            | true =>
              go_upto_region 12 with fail
              first | go_region_law (first
                | (go_simp; go_at_call 40; (with_reducible refine (LayD.r_blocks q _).mono ?_); rintro e w1 ⟨rfl, hb1⟩; have HSR1 := Lib.hid (sr_keep HSR.out hb1); have s14' : w1.cell? ⟨w.heap.size + 1 + 1, 14, none⟩ = some (.slice A t c) := HSR1.out.1.2.2.1.cell 14; clear hb1)
                | (go_simp; go_at_call 8; (with_reducible refine (PrgY.k_program Ar nr cr zr m _ plain _ h3 h4 hm hm2 (by exact sr_ints HSR1.out)).mono ?_); rintro e w2 ⟨A9, c9, p9, rfl, hg, hb2⟩; obtain ⟨A1, c1, w3, hrun, hc14, hf14, hsq⟩ := sr_push HSR1.out ht100 hg hb2; have hd14 : w3.cell? ⟨w.heap.size + 1 + 1, 14, none⟩ = some (.slice A t c) := hc14; have hg14 : w3.frozen? ⟨w.heap.size + 1 + 1, 14, none⟩ = false := hf14; have HSQ := Lib.hid hsq; have hsz2 : w.heap.size + 2 < w2.heap.size := (sr_keep HSR1.out hb2).1.size; have s14'' : w2.cell? ⟨w.heap.size + 1 + 1, 14, none⟩ = some (.slice A t c) := (sr_keep HSR1.out hb2).1.2.2.1.cell 14; clear hsq hg hb2)
                | (refine step_push rfl _ _ 48 rfl _ _ _ _ rfl rfl hrun ?_)) | fail
              all_goals
                clear hrun hc14 hf14 hd14 hg14
                go_wp2_with fail
                go_roundw
                case rel => exact ⟨t + 1, _, _, A1, c1, by go_num, by omega, by simp [hpl], HSQ⟩
                case measure => simp [intOf]; omega
        · obtain rfl : t = n := by omega
          go_wp2
          all_goals go_meet
          all_goals exact ⟨vs, ps, A, c, hpl, HS⟩
    case rest =>
      obtain ⟨vs, ps, A, c, hpl, HS⟩ := hcut
      clear HS0 HO0
      go_wp2
      go_loopw [19] (fun jv wr => ∃ (j : Nat) (ks : List Value) (zs : List Int) (Aq : Option Addr) (cq : Nat), jv = .int .i64 j ∧ j ≤ nk ∧ Hid (SQ w q m i0 n xs vs ps (.slice Ai i0 ci) (.slice A n c) (.slice Aq j cq) wr) ∧ Hid (wr.ownsRow w.heap.size 3 1 (.slice Aq j cq) j ks) ∧ Hid (PK n ks zs)) (fun jv _ => nk - (intOf jv).toNat)
      case atStart => exact ⟨0, [], [], none, 0, rfl, by omega, HS, Lib.hid (World.ownsRow_nil _ _ _ _), Lib.hid ⟨rfl, fun z hz => by cases hz⟩⟩
      case round =>
        clear HS
        obtain ⟨j, ks, zs, Aq, cq, rfl, hj, HS, HO, HK⟩ := hrel
        have hsz := HS.out.1.size
        by_cases hjn : j < nk
        · have hjI : (j : Int) < nk := by omega
          obtain ⟨_, _, hki⟩ := HKK.out
          obtain ⟨kb, koff, rfl, hkb, hkc⟩ := hki (by omega)
          have hc2 : wr.drew.cell? ⟨kb, koff + j, none⟩ = some (.int .i64 (zk.getD j 0)) := (World.cell?_of_block (w := w) (HS.out.1.2.2.2.block kb hkb)).trans (hkc j hjn)
          have s15 : wr.drew.cell? ⟨w.heap.size + 1 + 1, 15, none⟩ = some (.slice Aq j cq) := HS.out.1.2.2.1.cell 15
          have s15w : wr.cell? ⟨w.heap.size + 1 + 1, 15, none⟩ = some (.slice Aq j cq) := HS.out.1.2.2.1.cell 15
          have hc2w : wr.cell? ⟨kb, koff + j, none⟩ = some (.int .i64 (zk.getD j 0)) := hc2
          have hnI : (0 : Int) < n := by omega
          have hnI2 : (n : Int) ≤ 1000 := by omega
          clear hki hkc
          go_upto_region 16 with fail
          first | go_region_law (first
            | (go_simp; go_at_call 12; (with_reducible refine (LayK.k_place_ex _ _ hnI hnI2 _).mono ?_); rintro e w1 ⟨z, z0, z1, rfl, rfl⟩; obtain ⟨A1, c1, w3, hrun, hc15, hf15, hsq, ho2⟩ := sq_push HS.out.drew HO.out (by omega) z; have hd15 : w3.cell? ⟨w.heap.size + 1 + 1, 15, none⟩ = some (.slice Aq j cq) := hc15; have hg15 : w3.frozen? ⟨w.heap.size + 1 + 1, 15, none⟩ = false := hf15; have HSQ := Lib.hid hsq; have HO2 := Lib.hid ho2; have HK2 := Lib.hid (HK.out.push z0 (by omega)); clear hsq ho2)
            | (refine step_push rfl _ _ 22 rfl _ _ _ _ rfl rfl hrun ?_)) | fail
          all_goals
            clear hrun hc15 hf15 hd15 hg15
            go_wp2_with fail
            go_roundw
            case rel => exact ⟨j + 1, _, _, A1, c1, by go_num, by omega, HSQ, HO2, HK2⟩
            case measure => simp [intOf]; omega
        · obtain rfl : j = nk := by omega
          obtain ⟨s0, s1, s2, s3, s4, s5, s6, s7, s8, s9, s10, s11, s12, s13, s14, s15⟩ := sbox_cells (show Mem wr (w.heap.size + 1 + 1) TS _ from HS.out.1.2.2.1)
          have hR := HS.out.1.2.1
          obtain ⟨r0, r1, r2, r3, r4, r5, r6, r7, r8, r9, r10, r11, r12, r13, r14, r15⟩ := sbox_cells hR
          have hrz := hR.frozen
          go_wp2_with fail
          obtain ⟨hsb, hu, hp, hpv⟩ := HS.out
          have M5 := puts_end (q := q) (.slice Ai i0 ci) (.slice A n c) (.slice Aq j cq) hsb.2.1
          have nu := own_ne_mem hu hsb.2.1 (by decide)
          have np := own_ne_mem hp hsb.2.1 (by decide)
          have nk := own_ne_mem HO.out hsb.2.1 (by decide)
          have hsm : SM w q n m j (.slice Ai i0 ci) (.slice A n c) (.slice Aq j cq) i0 xs vs ps ks zs (puts (w.heap.size + 1) (sput q (.slice Ai i0 ci) (.slice A n c) (.slice Aq j cq)) wr) :=
            ⟨puts_below (by omega) _ hsb.2.2.2, puts_own hu nu _, hi0, puts_own hp np _, hpv.map (fun v n xs ho => puts_own ho (own_ne_mem ho hsb.2.1 (by decide)) _), hpl, puts_own HO.out nk _, HK.out⟩
          simp only [puts, List.foldl_cons, List.foldl_nil] at M5 hsm
          refine bodyPost_ret (v := scrV q (.slice Ai i0 ci) (.slice A n c) (.slice Aq j cq)) (results_cell_row rfl _ _ (w.heap.size + 1) TS (scells q (.slice Ai i0 ci) (.slice A n c) (.slice Aq j cq)) (0, 0) _ (by simp) M5 Tryd.underlying50 rfl (by kernel_rfl)) rfl ⟨_, _, _, rfl, _, _, _, _, _, _, hsm⟩
end Go.Proofs.YthnhmclnfgkppaaDoor.ScrN
