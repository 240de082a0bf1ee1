/-
  A row of rows of integers that came in as an argument.
-/
import Derived.Test.YthnhmclnfgkppaaDoorScrQ
import Derived.Test.YthnhmclnfgkppaaDoorFrame
import Derived.Laws.Tables
import Derived.Laws.Rows
namespace Go.Proofs.YthnhmclnfgkppaaDoor.ScrR
open Go.ChangeShapes Go.WideShapes Go.ChangeAt Go.RowKit
open PlainT BlkW LawFrame ScrP ScrN
set_option linter.unusedVariables false
set_option maxRecDepth 100000
section
variable {H : Type} {enc : TypeId × Value → H} {W : World} {base : Nat} {held : Bool}
theorem open_ll {b0 : Nat} {v : Value} {d : DataW H} {ps : List MemPlace} (hval : Value.okWide Tryd.prog W .any b0 42 v) (hd : DataW.Trod enc Tryd.prog W base (fun _ => true) held 42 v d ps) :
    ∃ (A : Option Addr) (k c : Nat), v = .slice A k c ∧ k ≤ c ∧ c ≤ maxLen ∧ LL W A k := by
  obtain ⟨A, n, c, rfl⟩ := okWide_slice Tryd.underlying42 hval
  obtain ⟨fuel, hf⟩ := hd
  have hc : Tryd.prog.cellsOf 22 = 1 := by kernel_rfl
  have hci : Tryd.prog.cellsOf 3 = 1 := by kernel_rfl
  rcases Go.Deep.open_slice1 Tryd.underlying42 hc hf with ⟨hcs, _⟩ | ⟨a, len, cap, m, n', V, D, Pl, hcs, hb, hl, hm, hmm, hx, hi⟩
  · simp [Value.cells] at hcs
    obtain ⟨rfl, rfl, rfl⟩ := hcs
    exact ⟨none, 0, 0, rfl, Nat.le_refl _, Nat.zero_le _, fun i h => absurd h (by omega)⟩
  · simp [Value.cells] at hcs
    obtain ⟨rfl, rfl, rfl⟩ := hcs
    simp only [if_true] at hmm
    have hmm' := hmm.symm
    subst hmm'
    refine ⟨some a, n, c, rfl, hl, hm, fun i hlt => ?_⟩
    obtain ⟨h1, h2⟩ := hi i (by omega)
    obtain ⟨Ai, ni, ci, zi, hv, h3, h4, h5⟩ := open_irow Tryd.underlying22 Tryd.underlying3 hci h2
    rw [hv] at h1
    have hsp : a.spot = none := by
      have := World.cell?_spot (hi 0 (by omega)).1
      simpa [Addr.add] using this
    obtain ⟨b, off, spot⟩ := a
    simp only at hsp
    subst hsp
    rw [Go.WideShapes.add_plain] at h1
    exact ⟨b, off, Ai, ni, ci, zi, rfl, World.block_lt_of_cell? _ _ h1, h1, h3, h4, h5⟩
end
theorem LL.old {w w' : World} {A : Option Addr} {n : Nat} (h : LL w A n) (k : Old w w') : LL w' A n := fun i hi => by
  obtain ⟨b, off, Ai, ni, ci, zi, h1, h2, h3, h4, h5, h6⟩ := h i hi
  exact ⟨b, off, Ai, ni, ci, zi, h1, Nat.lt_of_lt_of_le h2 k.1, by rw [World.cell?_of_block (w := w) (k.2 b h2)]; exact h3, h4, h5, ints_old h6 k⟩
theorem SM.below {w0 w w' : World} {q : LayS.Cfg} {n m nk : Nat} {vi vp vk : Value} {i0 : Nat} {xs vs : List Value} {ps : List (List PrgS.I5)} {ks : List Value} {zs : List Int} (h : SM w0 q n m nk vi vp vk i0 xs vs ps ks zs w) (k : Below w.heap.size w w') : SM w0 q n m nk vi vp vk i0 xs vs ps ks zs w' :=
  have o := Old.of_below k
  ⟨h.bel.trans (k.mono h.bel.size), Own.own_old h.ini o, h.len, Own.own_old h.pro o, h.pv.old o, h.pn, Own.own_old h.pic o, h.pk⟩
theorem k_script_i (q : LayS.Cfg) (hq : 4 ≤ q.w ∧ q.w ≤ 12) (z : Int) (h1 : 1 ≤ z) (h2 : z ≤ 3) (Al : Option Addr) (nl cl : Nat) (m : Nat) (y : Int) (hy : (m : Int) = y) (hm : m ≤ 60) (hm2 : 2 ≤ m) (heap plain : Bool) (Ak : Option Addr) (nk ck : Nat) (hnk : nk ≤ 200000) (zk : List Int) (w : World) (hl : LL w Al nl) (hk : Ints .i64 w Ak nk zk) :
    Calls Tryd.prog 17 #[LayS.cfgV q, .int .i64 z, .slice Al nl cl, .int .i64 y, .bool heap, .bool plain, .slice Ak nk ck] w fun e w' => ∃ (n : Nat) (Ai : Option Addr) (ci : Nat) (Ap : Option Addr) (cp : Nat) (Aq : Option Addr) (cq i0 : Nat) (xs vs : List Value) (ps : List (List PrgS.I5)) (ks : List Value) (zs : List Int), e = .returned (scrV q (.slice Ai i0 ci) (.slice Ap n cp) (.slice Aq nk cq)) ∧ (n : Int) = z ∧ SM w q n m nk (.slice Ai i0 ci) (.slice Ap n cp) (.slice Aq nk cq) i0 xs vs ps ks zs w' := by
  subst hy
  obtain ⟨n, rfl⟩ : ∃ n : Nat, z = n := ⟨z.toNat, by omega⟩
  refine (k_script q hq n (by omega) (by omega) Al nl cl m hm hm2 heap plain Ak nk ck hnk zk w hl hk).mono ?_
  rintro e w' ⟨vi, vp, vk, i0, xs, vs, ps, ks, zs, he, hs⟩
  obtain ⟨Ai, ci, rfl, _⟩ := Own.own_slice hs.ini
  obtain ⟨Ap, cp, rfl, _⟩ := Own.own_slice hs.pro
  obtain ⟨Aq, cq, rfl, _⟩ := Own.own_slice hs.pic
  exact ⟨n, Ai, ci, Ap, cp, Aq, cq, i0, xs, vs, ps, ks, zs, he, rfl, hs⟩
theorem sm_holds {w0 w : World} {q : LayS.Cfg} {n m nk : Nat} {Ai : Option Addr} {ci : Nat} {Ap : Option Addr} {cp : Nat} {Aq : Option Addr} {cq : Nat} {i0 : Nat} {xs vs : List Value} {ps : List (List PrgS.I5)} {ks : List Value} {zs : List Int} (hn : n ≤ 3) (h : SM w0 q n m nk (.slice Ai i0 ci) (.slice Ap n cp) (.slice Aq nk cq) i0 xs vs ps ks zs w) : Holds w ⟨q, i0, ps, zs⟩ Ai ci Ap n cp Aq nk cq := by
  obtain ⟨A1, c1, A2, c2, A3, c3, e1, e2, e3, hh⟩ := (ScrQ.sm_rs hn h).holds q
  injection e1 with e1 _ e1'
  injection e2 with e2 _ e2'
  injection e3 with e3 _ e3'
  subst e1 e1' e2 e2' e3 e3'
  exact hh
theorem sm_csV {w0 w : World} {q : LayS.Cfg} {n m nk : Nat} {vi vp vk : Value} {i0 : Nat} {xs vs : List Value} {ps : List (List PrgS.I5)} {ks : List Value} {zs : List Int} (hq : LayS.chkV q = 0) (h1 : 1 ≤ n) (hn : n ≤ 3) (hk : nk ≤ 60) (h : SM w0 q n m nk vi vp vk i0 xs vs ps ks zs w) : ScrA.csV ⟨q, i0, ps, zs⟩ = (0, 0, 0) := by
  refine ScrQ.csV_made hq h1 hn h.pn (fun p hp => ?_) h.len h.pk.2 ?_
  · obtain ⟨i, hi, rfl⟩ := List.mem_iff_getElem.1 hp
    obtain ⟨_, _, _, _, _, h6, _⟩ := h.pv.row i _ (List.getElem?_eq_getElem hi)
    exact h6
  · have := h.pic.1
    rw [h.pk.1] at this
    simp at this
    omega
theorem PV.mono {B B' m : Nat} {w : World} {vs : List Value} {ps : List (List PrgS.I5)} (h : PV B m w vs ps) (hB : B' ≤ B) : PV B' m w vs ps :=
  ⟨h.len, fun i p hi => by obtain ⟨A, c, h1, h2, h3⟩ := h.row i p hi; exact ⟨A, c, h1, Own.own_mono h2 hB, h3⟩, h.two⟩
theorem SM.weak {w0 b0 w : World} {q : LayS.Cfg} {n m nk : Nat} {vi vp vk : Value} {i0 : Nat} {xs vs : List Value} {ps : List (List PrgS.I5)} {ks : List Value} {zs : List Int} (h : SM w0 q n m nk vi vp vk i0 xs vs ps ks zs w) (hb : Below b0.heap.size b0 w) (hle : b0.heap.size ≤ w0.heap.size) : SM b0 q n m nk vi vp vk i0 xs vs ps ks zs w :=
  ⟨hb, Own.own_mono h.ini hle, h.len, Own.own_mono h.pro hle, PV.mono h.pv hle, h.pn, Own.own_mono h.pic hle, h.pk⟩
/-- Stores into a box that is none of the rows. -/
theorem SM.puts {w0 w : World} {q : LayS.Cfg} {n m nk gs : Nat} {vi vp vk : Value} {i0 : Nat} {xs vs : List Value} {ps : List (List PrgS.I5)} {ks : List Value} {zs : List Int} {cs : Array Value} (h : SM w0 q n m nk vi vp vk i0 xs vs ps ks zs w) (hm : Mem w gs TS cs) (hg : w0.heap.size ≤ gs) (l : List (Nat × Value)) : SM w0 q n m nk vi vp vk i0 xs vs ps ks zs (ScrN.puts gs l w) :=
  ⟨puts_below hg l h.bel, puts_own h.ini (Own.own_ne_mem h.ini hm (by decide)) l, h.len, puts_own h.pro (Own.own_ne_mem h.pro hm (by decide)) l, h.pv.map (fun v n xs ho => puts_own ho (Own.own_ne_mem ho hm (by decide)) l), h.pn, puts_own h.pic (Own.own_ne_mem h.pic hm (by decide)) l, h.pk⟩
/-- What stands behind the making of a script. -/
def ScrAt (B : World) (q : LayS.Cfg) (nk gs : Nat) (w : World) : Prop := ∃ (n : Nat) (Ai : Option Addr) (ci : Nat) (Ap : Option Addr) (cp : Nat) (Aq : Option Addr) (cq i0 : Nat) (xs vs : List Value) (ps : List (List PrgS.I5)) (ks : List Value) (zs : List Int), 1 ≤ n ∧ n ≤ 3 ∧ SM B q n 20 nk (.slice Ai i0 ci) (.slice Ap n cp) (.slice Aq nk cq) i0 xs vs ps ks zs w ∧ Mem w gs TS (scells q (.slice Ai i0 ci) (.slice Ap n cp) (.slice Aq nk cq)) ∧ B.heap.size ≤ gs
theorem at_new {B w0 w3 : World} {q : LayS.Cfg} {n nk : Nat} {Ai : Option Addr} {ci : Nat} {Ap : Option Addr} {cp : Nat} {Aq : Option Addr} {cq i0 : Nat} {xs vs : List Value} {ps : List (List PrgS.I5)} {ks : List Value} {zs : List Int} (h : SM w0 q n 20 nk (.slice Ai i0 ci) (.slice Ap n cp) (.slice Aq nk cq) i0 xs vs ps ks zs w3) (h1 : 1 ≤ n) (h3 : n ≤ 3) (hw : w0 = B.drew) :
    ScrAt B q nk w3.heap.size (w3.alloc (.cells (scells q (.slice Ai i0 ci) (.slice Ap n cp) (.slice Aq nk cq)) TS)) := by
  subst hw
  have hb : Below B.heap.size B w3 := ⟨h.bel.os, h.bel.tape, h.bel.output, h.bel.size, h.bel.block⟩
  exact ⟨n, Ai, ci, Ap, cp, Aq, cq, i0, xs, vs, ps, ks, zs, h1, h3, SM.below (SM.weak h hb (Nat.le_refl _)) (BlkW.below_new w3 _), Mem.new _ _ _, hb.size⟩
theorem at_old {B w0 w3 : World} {q q' : LayS.Cfg} {a b c : Value} {n nk : Nat} {Ai : Option Addr} {ci : Nat} {Ap : Option Addr} {cp : Nat} {Aq : Option Addr} {cq i0 : Nat} {xs vs : List Value} {ps : List (List PrgS.I5)} {ks : List Value} {zs : List Int} (h : SM w0 q n 20 nk (.slice Ai i0 ci) (.slice Ap n cp) (.slice Aq nk cq) i0 xs vs ps ks zs w3) (h1 : 1 ≤ n) (h3 : n ≤ 3) (hb : Below B.heap.size B w0) (hm : Mem w3 B.heap.size TS (scells q' a b c)) :
    ScrAt B q nk B.heap.size (ScrN.puts B.heap.size (sput q (.slice Ai i0 ci) (.slice Ap n cp) (.slice Aq nk cq)) w3) := by
  have hb3 : Below B.heap.size B w3 := hb.trans (h.bel.mono hb.size)
  exact ⟨n, Ai, ci, Ap, cp, Aq, cq, i0, xs, vs, ps, ks, zs, h1, h3, SM.puts (SM.weak h hb3 hb.size) hm (Nat.le_refl _) _, puts_end (q := q) _ _ _ hm, Nat.le_refl _⟩
section
variable {P : Program} {ops : Array Oper} {o : Oper} {a : Act} {w : World} {K : Act → World → Prop} {Q : Exit → Act → World → Prop} {E : Prop}
/-- A whole row is stored, in a region that draws. -/
theorem step_srow (hg : o.guard = none) (ty : TypeId) (x y : Operand) (ho : o.op = .store ty x y) (g : Nat) (cells : Array Value) (hx : a.eval x = .pointer (some ⟨g, 0, none⟩)) (hy : a.eval y = .agg cells)
    (t : TypeId) (old : Array Value) (hm : w.heap[g]? = some (.cells old t (0, 0))) (hi : (P.info? ty).map (·.size) = some cells.size) (hold : old.size = cells.size) (h1 : cells.all (·.oneCell') = true)
    (hK : K (a.put o.dst undef) (w.setRow g cells)) : if Region.wanted o (yielded ops a.tmps) = true then Oper.wp P o a w K Q else E := by
  have hw : Region.wanted o (yielded ops a.tmps) = true := by simp [Region.wanted, hg]
  rw [if_pos hw]
  exact wp_store_row ty x y ho g cells hx hy t old hm hi hold h1 hK
end
theorem at_row {B w0 w3 : World} {q q' : LayS.Cfg} {a b c : Value} {n nk : Nat} {Ai : Option Addr} {ci : Nat} {Ap : Option Addr} {cp : Nat} {Aq : Option Addr} {cq i0 : Nat} {xs vs : List Value} {ps : List (List PrgS.I5)} {ks : List Value} {zs : List Int} (h : SM w0 q n 20 nk (.slice Ai i0 ci) (.slice Ap n cp) (.slice Aq nk cq) i0 xs vs ps ks zs w3) (h1 : 1 ≤ n) (h3 : n ≤ 3) (hb : Below B.heap.size B w0) (hm : Mem w3 B.heap.size TS (scells q' a b c)) :
    ScrAt B q nk B.heap.size (w3.setRow B.heap.size (scells q (.slice Ai i0 ci) (.slice Ap n cp) (.slice Aq nk cq))) := by
  have hb3 : Below B.heap.size B w3 := hb.trans (h.bel.mono hb.size)
  have h' := SM.weak h hb3 hb.size
  have hbl : ∀ k, k ≠ B.heap.size → (w3.setRow B.heap.size (scells q (.slice Ai i0 ci) (.slice Ap n cp) (.slice Aq nk cq))).heap[k]? = w3.heap[k]? := fun k hk => setRow_other w3 _ k _ hk
  have hbs : Below B.heap.size B (w3.setRow B.heap.size (scells q (.slice Ai i0 ci) (.slice Ap n cp) (.slice Aq nk cq))) := ⟨by rw [setRow_os]; exact hb3.os, by rw [setRow_tape]; exact hb3.tape, by rw [setRow_output]; exact hb3.output, by rw [setRow_size]; exact hb3.size, fun k hk => (hbl k (by omega)).trans (hb3.block k hk)⟩
  have ow : ∀ {e : TypeId} {s l : Nat} {v : Value} {ys : List Value}, w3.ownsRow B.heap.size e s v l ys → e ≠ TS → (w3.setRow B.heap.size (scells q (.slice Ai i0 ci) (.slice Ap n cp) (.slice Aq nk cq))).ownsRow B.heap.size e s v l ys := fun ho hne => Own.own_of_block ho fun g hg => hbl g (fun e => Own.own_ne_mem ho hm hne (by rw [hg, e]))
  exact ⟨n, Ai, ci, Ap, cp, Aq, cq, i0, xs, vs, ps, ks, zs, h1, h3, ⟨hbs, ow h'.ini (by decide), h'.len, ow h'.pro (by decide), h'.pv.map (fun v n xs ho => ow ho (by decide)), h'.pn, ow h'.pic (by decide), h'.pk⟩, setRow_heap w3 _ _ _ _ _ hm, Nat.le_refl _⟩
theorem made_i (n : Nat) : madeCells (Value.int .i64 0).cells n = Array.replicate n (.int .i64 0) := by
  apply Array.ext
  · simp [size_madeCells]
  · intro i h1 h2
    simp [madeCells, Value.cells, Nat.mod_one]
theorem make_i (w : World) (m : Nat) (h : m ≤ 1000000) : (Instr.makeSlice 22 (.int .i64 (m : Int)) (.int .i64 (m : Int))).run Tryd.prog w = .ok (.slice (some ⟨w.heap.size, 0, none⟩) m m) (w.alloc (.cells (Array.replicate m (.int .i64 0)) 3)) := by
  obtain ⟨i, hi, hz, hs, hb⟩ : ∃ i, Tryd.prog.info? 3 = some i ∧ i.zero = some (.int .i64 0) ∧ i.size = 1 ∧ i.bytes = 8 := ⟨_, rfl, by kernel_rfl, by kernel_rfl, by kernel_rfl⟩
  have := run_make (P := Tryd.prog) w 22 3 i (.int .i64 0) Tryd.underlying22 hi hz .i64 .i64 m m (by omega) (Int.le_refl _) (by rw [hb]; omega) (by omega)
  rw [this, hs, Nat.mul_one, made_i]
  simp
theorem info_ts (n : Nat) (h : n = 16) : (Tryd.prog.info? TS).map (·.size) = some n := by
  subst h
  kernel_rfl
theorem scells_one (q : LayS.Cfg) (a b c : Option Addr) (n1 n2 n3 c1 c2 c3 : Nat) : (scells q (.slice a n1 c1) (.slice b n2 c2) (.slice c n3 c3)).all (·.oneCell') = true := by
  simp [Value.oneCell']
theorem in0 : IsaF.InInt 0 := by
  unfold IsaF.InInt
  omega
end Go.Proofs.YthnhmclnfgkppaaDoor.ScrR
