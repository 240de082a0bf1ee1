/-
  Proved: under every schedule an orec that a thread has locked shows this thread as its holder, with its old version, until it is released: no two threads hold the same orec. No condition.
-/
import Derived.Test.YtphnadchdhblpaaRows
import Derived.WalkKit
import Derived.ProofKit
import Derived.OpenShut
import Derived.Test.YtphnadchdhblpaaFrame
import Derived.Test.YtphnadchdhblpaaLkR
import Derived.Deep.RegionHeld3
import Derived.Deep.RegionLaw
import Derived.Deep.Cut
import Derived.Deep.DeepCutAuto
import Derived.Deep.CutBlock
import Derived.BigQuiet
import Derived.Deep.QuietTactic
namespace Go.Proofs.Ytphnadchdhblpaa.lockerExcludes
open Go.ChangeShapes Go.WideShapes Go.ChangeAt Go.RowKit
open LawFrame
open Go.ChangeMaps (open_string)
set_option linter.unusedVariables false

theorem own : ownKnob Try.prog.godebug = none := by kernel_rfl
theorem laidOut : laidOutB Try.prog = true := by kernel_rfl
theorem cells3 : Try.prog.cellsOf 3 = 1 := by kernel_rfl

open LawFrame PlainT BlkW LayS LayA LayH LayK LayP CelS CelM CelP CelV CelN CelO CelF LabD LabR LabP LabS LabX LabN CelLo WordC RsA ObjA LkP LkQ SrtA LkA LkB LkL LkR
set_option maxHeartbeats 20000000
set_option maxRecDepth 400000
abbrev TH6 : TypeId := 87
theorem gj_congr {val : Nat → Int} {d : Int} {S : Nat → List Int} {k k' : Nat → Nat} {V : List Int} (h : GJ val d S k V) (e : ∀ u, u < 3 → k u = k' u) : GJ val d S k' V :=
  ⟨h.len, fun o ho u hu hm => h.has o ho u hu (by rw [e u hu]; exact hm), fun o ho hm => h.not o ho fun u hu hx => hm u hu (by rw [← e u hu]; exact hx)⟩
/-- How far the table of holders is: the threads below u, and j records of thread u. -/
def ghK (k : Nat → Nat) (u j v : Nat) : Nat := if v < u then k v else if v = u then j else 0
theorem gh_next {S : Nat → List Int} {k : Nat → Nat} {V H : List Int} (hS : SOk S) (hI : GI S k V) {u j p : Nat} (hu : u < 3) (hj : j < k u) (hH : GH S (ghK k u j) H) (hp : (S u)[j]? = some (p : Int)) (hp6 : p < 6) : H.getD p 0 = -1 ∧ V.getD p 0 = (u : Int) + 1 ∧ GH S (ghK k u (j + 1)) (H.set p (u : Int)) := by
  have hin : (p : Int) ∈ (S u).take (k u) := List.mem_take_iff_getElem.2 ⟨j, by have := (List.getElem?_eq_some_iff.1 hp).1; omega, (List.getElem?_eq_some_iff.1 hp).2⟩
  have hno : ∀ v, v < 3 → ¬ (p : Int) ∈ (S v).take (ghK k u j v) := fun v hv hm => by
    unfold ghK at hm
    split at hm
    · rename_i h
      have := hI.one hp6 hu hv hin hm
      omega
    · split at hm
      · rename_i h
        subst h
        obtain ⟨i, hi, he⟩ := List.mem_take_iff_getElem.1 hm
        have h1 : (S v)[i]? = some (p : Int) := by rw [← he]; exact List.getElem?_eq_getElem _
        have := asc_lt (hS.asc v hv) h1 hp (by omega)
        omega
      · simp at hm
  refine ⟨hH.not p hp6 hno, hI.has p hp6 u hu hin, ?_⟩
  have e : ghK k u j u = j := by unfold ghK; rw [if_neg (by omega), if_pos rfl]
  have := hH.more (o := p) hu hp6 (by rw [e]; exact hp) fun v hv _ => hno v hv
  rw [e] at this
  refine gj_congr this fun v _ => ?_
  by_cases ev : v = u
  · subst ev
    rw [upf_at]
    unfold ghK
    rw [if_neg (by omega), if_pos rfl]
  · rw [upf_ne ev]
    unfold ghK
    rw [if_neg ev, if_neg ev]
theorem gh_thread {S : Nat → List Int} {k : Nat → Nat} {H : List Int} {u : Nat} (hH : GH S (ghK k u (k u)) H) : GH S (ghK k (u + 1) 0) H := gj_congr hH fun v _ => by
  unfold ghK
  by_cases h : v < u
  · rw [if_pos h, if_pos (by omega)]
  · rw [if_neg h]
    by_cases e : v = u
    · subst e
      rw [if_pos rfl, if_pos (by omega)]
    · rw [if_neg e, if_neg (by omega)]
      split <;> rfl
theorem gh_begin {S : Nat → List Int} {k : Nat → Nat} {H : List Int} (hl : H.length = 6) (h : ∀ p, p < 6 → H.getD p 0 = -1) : GH S (ghK k 0 0) H :=
  ⟨hl, fun o ho u hu hm => by
    have : ghK k 0 0 u = 0 := by unfold ghK; rw [if_neg (by omega)]; split <;> rfl
    rw [this] at hm
    simp at hm, fun o ho _ => h o ho⟩
theorem gh_end {S : Nat → List Int} {k : Nat → Nat} {V H : List Int} (hI : GI S k V) (hH : GH S (ghK k 3 0) H) (p : Nat) (hp : p < 6) : (0 ≤ H.getD p 0) ∨ (H.getD p 0 < 0 ∧ V.getD p 0 = 0) := by
  rcases hH.cases p hp with ⟨u, hu, _, e⟩ | ⟨hn, e⟩
  · exact .inl (by rw [e]; omega)
  · refine .inr ⟨by rw [e]; decide, hI.not p hp fun v hv hm => hn v hv ?_⟩
    unfold ghK
    rw [if_pos hv]
    exact hm
def IH (H : List Int) : Array Value := (H.map (Value.int .i64)).toArray
theorem ih_at {H : List Int} {p : Nat} (h : p < H.length) : (IH H)[p]? = some (.int .i64 (H.getD p 0)) := by
  unfold IH
  rw [List.getElem?_toArray, List.getElem?_map, List.getElem?_eq_getElem h, List.getD_eq_getElem?_getD, List.getElem?_eq_getElem h]
  rfl
theorem ih_set {H : List Int} {p : Nat} (v : Int) : (IH H).setIfInBounds p (.int .i64 v) = IH (H.set p v) := by
  unfold IH
  rw [List.setIfInBounds_toArray, List.map_set]
def ptrN (s : SL) (g : Nat → Nat) (u : Nat) : Value := if s.n u = true then .pointer none else ptrV (g u)
/-- The machines of three threads, of those that have one, and what the cells tell of them. -/
structure ExI (S : Nat → List Int) (g : Nat → Nat) (s : SL) (o : Nat → Ob) (A : Int → List Int) : Prop where
  no : ∀ u, u < 3 → s.n u = true → o u = nob
  ob : ∀ u, u < 3 → s.n u = false → ∃ vl vo f, (s.r u = true → f = 0) ∧ o u = lkM (g u) u vl vo (lst S u (s.k u) (s.r u) f)
  le : ∀ u, u < 3 → s.n u = false → s.k u ≤ (S u).length
  gi : GI S (eff s) (A 2)
  one : (A 3).length = 1 ∧ (A 4).length = 1 ∧ (A 5).length = 1
section
variable {w0 w : World} {lo hi b rb ga : Nat} {q : Cfg} {A B A' : Int → List Int} {X : List Ob} {o : Nat → Ob} {g : Nat → Nat} {S : Nat → List Int} {s : SL}
theorem ex_start (hA : A 2 = [0, 0, 0, 0, 0, 0]) (h1 : (A 3).length = 1 ∧ (A 4).length = 1 ∧ (A 5).length = 1) : ExI S g ⟨fun _ => 0, fun _ => false, fun _ => true, A 2⟩ (fun _ => nob) A :=
  ⟨fun _ _ _ => rfl, fun u _ h => (by cases h), fun u _ h => (by cases h), by
    rw [hA]
    refine ⟨rfl, fun p hp u hu hm => ?_, fun p hp _ => ?_⟩
    · simp [eff] at hm
    · have : p = 0 ∨ p = 1 ∨ p = 2 ∨ p = 3 ∨ p = 4 ∨ p = 5 := by omega
      rcases this with rfl | rfl | rfl | rfl | rfl | rfl <;> rfl, h1⟩
theorem lo_nobs (h : Lo w0 lo hi b rb q A B X w) : Lo w0 lo hi b rb q A B (X ++ Tn (fun _ => nob) 3) w := by
  have k : ∀ Y, Lo w0 lo hi b rb q A B Y w → Lo w0 lo hi b rb q A B (Y ++ [nob]) w := fun Y h => h.add (Below.refl _ _) trivial fun g hg => absurd hg List.not_mem_nil
  have := k _ (k _ (k _ h))
  rw [List.append_assoc, List.append_assoc] at this
  exact this
theorem ex_put {t : Nat} (ht : t < 3) (hn : o t = nob) {x : Ob} (h : Lo w0 lo hi b rb q A B ((X ++ Tn o 3) ++ [x]) w) : Lo w0 lo hi b rb q A B (X ++ Tn (upf o t x) 3) w := by
  have he : (X ++ Tn o 3) = (X ++ Tn o 3).set (X.length + t) nob := by
    rw [lo_set3 ht, ← hn, upf_id]
  rw [he] at h
  have := h.give (by simp [Tn]; omega)
  rw [lo_set3 ht] at this
  exact this
theorem ex_new (h : ExI S g s o A) {t g1 : Nat} {v1 : Value} (ht : t < 3) (hn : s.n t = true) : ExI S (upf g t g1) ⟨upf s.k t 0, upf s.r t false, upf s.n t false, s.V⟩ (upf o t (lkM g1 t v1 (.slice none 0 0) (lst S t 0 false 0))) A := by
  refine ⟨fun u hu hx => ?_, fun u hu hx => ?_, fun u hu hx => ?_, ?_, h.one⟩
  · have hx : upf s.n t false u = true := hx
    by_cases e : u = t
    · subst e
      rw [upf_at] at hx
      cases hx
    · rw [upf_ne e] at hx ⊢
      exact h.no u hu hx
  · have hx : upf s.n t false u = false := hx
    by_cases e : u = t
    · subst e
      refine ⟨v1, .slice none 0 0, 0, fun _ => rfl, ?_⟩
      show upf o u _ u = lkM (upf g u g1 u) u v1 _ (lst S u (upf s.k u 0 u) (upf s.r u false u) 0)
      rw [upf_at, upf_at, upf_at, upf_at]
    · rw [upf_ne e] at hx
      obtain ⟨vl, vo, f, h1, h2⟩ := h.ob u hu hx
      refine ⟨vl, vo, f, ?_, ?_⟩
      · show upf s.r t false u = true → f = 0
        rw [upf_ne e]
        exact h1
      · show upf o t _ u = lkM (upf g t g1 u) u vl vo (lst S u (upf s.k t 0 u) (upf s.r t false u) f)
        rw [upf_ne e, upf_ne e, upf_ne e, upf_ne e]
        exact h2
  · have hx : upf s.n t false u = false := hx
    show upf s.k t 0 u ≤ _
    by_cases e : u = t
    · subst e
      rw [upf_at]
      exact Nat.zero_le _
    · rw [upf_ne e] at hx ⊢
      exact h.le u hu hx
  · have : eff ⟨upf s.k t 0, upf s.r t false, upf s.n t false, s.V⟩ = eff s := by
      funext u
      unfold eff
      by_cases e : u = t
      · subst e
        simp only [upf_at, hn]
        rfl
      · simp only [upf_ne e]
    rw [this]
    exact h.gi
theorem ex_step (h : ExI S g s o A) {t : Nat} (ht : t < 3) (hn : s.n t = false) {k' : Nat} {r' : Bool} {f' : Int} {vl' vo' : Value} (hA : ∀ j, j ≠ 2 → A' j = A j) (hf : r' = true → f' = 0) (hk : k' ≤ (S t).length) (hI : GI S (upf (eff s) t k') (A' 2)) :
    ExI S g ⟨upf s.k t k', upf s.r t r', s.n, A' 2⟩ (upf o t (lkM (g t) t vl' vo' (lst S t k' r' f'))) A' := by
  refine ⟨fun u hu hx => ?_, fun u hu hx => ?_, fun u hu hx => ?_, ?_, ?_⟩
  · have hx : s.n u = true := hx
    by_cases e : u = t
    · subst e
      rw [hn] at hx
      cases hx
    · rw [upf_ne e]
      exact h.no u hu hx
  · have hx : s.n u = false := hx
    by_cases e : u = t
    · subst e
      refine ⟨vl', vo', f', ?_, ?_⟩
      · show upf s.r u r' u = true → f' = 0
        rw [upf_at]
        exact hf
      · show upf o u _ u = lkM (g u) u vl' vo' (lst S u (upf s.k u k' u) (upf s.r u r' u) f')
        rw [upf_at, upf_at, upf_at]
    · obtain ⟨vl, vo, f, h1, h2⟩ := h.ob u hu hx
      refine ⟨vl, vo, f, ?_, ?_⟩
      · show upf s.r t r' u = true → f = 0
        rw [upf_ne e]
        exact h1
      · show upf o t _ u = lkM (g u) u vl vo (lst S u (upf s.k t k' u) (upf s.r t r' u) f)
        rw [upf_ne e, upf_ne e, upf_ne e]
        exact h2
  · have hx : s.n u = false := hx
    show upf s.k t k' u ≤ _
    by_cases e : u = t
    · subst e
      rw [upf_at]
      exact hk
    · rw [upf_ne e]
      exact h.le u hu hx
  · have : eff ⟨upf s.k t k', upf s.r t r', s.n, A' 2⟩ = upf (eff s) t k' := by
      funext u
      unfold eff
      by_cases e : u = t
      · subst e
        simp only [upf_at, hn]
        rfl
      · simp only [upf_ne e]
    rw [this]
    exact hI
  · rw [hA 3 (by decide), hA 4 (by decide), hA 5 (by decide)]
    exact h.one
theorem ex_rel (h : ExI S g s o A) (hS : SOk S) {t : Nat} (ht : t < 3) (hn : s.n t = false) (hk : s.k t = (S t).length) (hA : ∀ j, j ≠ 2 → A' j = A j) (hA2 : A' 2 = relK (S t) (A 2)) :
    ExI S g ⟨s.k, s.r, upf s.n t true, A' 2⟩ (upf o t nob) A' := by
  refine ⟨fun u hu hx => ?_, fun u hu hx => ?_, fun u hu hx => ?_, ?_, by rw [hA 3 (by decide), hA 4 (by decide), hA 5 (by decide)]; exact h.one⟩
  · have hx : upf s.n t true u = true := hx
    by_cases e : u = t
    · subst e
      rw [upf_at]
    · rw [upf_ne e] at hx ⊢
      exact h.no u hu hx
  · have hx : upf s.n t true u = false := hx
    by_cases e : u = t
    · subst e
      rw [upf_at] at hx
      cases hx
    · rw [upf_ne e] at hx ⊢
      exact h.ob u hu hx
  · have hx : upf s.n t true u = false := hx
    by_cases e : u = t
    · subst e
      rw [upf_at] at hx
      cases hx
    · rw [upf_ne e] at hx
      exact h.le u hu hx
  · have e : eff ⟨s.k, s.r, upf s.n t true, A' 2⟩ = upf (eff s) t 0 := by
      funext u
      unfold eff
      by_cases e : u = t
      · subst e
        simp only [upf_at, if_true]
      · simp only [upf_ne e]
    rw [e, hA2]
    refine GI.release h.gi hS ht ?_
    unfold eff
    rw [hn]
    exact hk
theorem a3_ptr {s s' : SL} {g g' : Nat → Nat} {t : Nat} (ht : t < 3) {v : Value} (hv : ptrN s' g' t = v) (hne : ∀ u, u ≠ t → ptrN s' g' u = ptrN s g u) : (A3 fun u => ptrN s g u).setIfInBounds t v = A3 fun u => ptrN s' g' u := by
  rw [a3_set ht]
  refine a3_congr fun u _ => ?_
  by_cases e : u = t
  · subst e
    rw [upf_at, hv]
  · rw [upf_ne e, hne u e]
/-- An object that lies apart from the others stands behind them. -/
theorem Lo_addD {ex : List Ob} {x : Ob} (h : Lo w0 lo hi b rb q A B ex w) (I : x.is w) (hh : ∀ g ∈ x.fp, hi ≤ g) (hd : ∀ (i : Nat) (c : Ob), ex[i]? = some c → ∀ g ∈ c.fp, g ∉ x.fp) : Lo w0 lo hi b rb q A B (ex ++ [x]) w := by
  have key : ∀ (j : Nat) (c : Ob), (ex ++ [x])[j]? = some c → ex[j]? = some c ∨ (j = ex.length ∧ c = x) := fun j c hj => by
    rw [List.getElem?_append] at hj
    split at hj
    · exact .inl hj
    · rename_i hn
      have := (List.getElem?_eq_some_iff.1 hj).1
      simp at this
      have e : j = ex.length := by omega
      subst e
      simp at hj
      exact .inr ⟨rfl, hj.symm⟩
  refine ⟨h.duo, fun j c hj => ?_, fun j c hj y hy => ?_, fun j k a c hjk hj hk y hy hc => ?_, h.old, h.lo_, h.le⟩
  · rcases key j c hj with h2 | ⟨rfl, rfl⟩
    · exact h.is j c h2
    · exact I
  · rcases key j c hj with h2 | ⟨rfl, rfl⟩
    · exact h.hi_ j c h2 y hy
    · exact hh y hy
  · rcases key j a hj with h2 | ⟨rfl, rfl⟩
    · rcases key k c hk with h3 | ⟨rfl, rfl⟩
      · exact h.nd j k a c hjk h2 h3 y hy hc
      · exact hd j a h2 y hy hc
    · rcases key k c hk with h3 | ⟨rfl, _⟩
      · exact hd k c h3 y hc hy
      · exact hjk rfl
theorem z_old3 {ex : List Ob} {i gm t k m : Nat} {r : Bool} {f : Int} {vl vo : Value} (h : Lo w0 lo hi b rb q A B ex w) (he : ex[i]? = some (lkM gm t vl vo (lst S t k r f))) (hs : LOk (lst S t k r f)) (hk : k = m) : Calls Try.prog 50 #[.pointer (some ⟨gm, 0, none⟩)] w fun e w' => ∃ Aa c, e = .returned (.slice Aa m c) ∧ w'.ownsRow w.heap.size TU 1 (.slice Aa m c) (List.replicate m (0 : Int)).length ((List.replicate m (0 : Int)).map (Value.int .u64)) ∧ Below w.heap.size w w' := by
  subst hk
  refine (x_old h he hs).mono ?_
  rintro e w' ⟨Aa, c, he', ho, hb⟩
  simp only [List.length_replicate] at he'
  exact ⟨Aa, c, he', by simpa only [List.length_replicate] using ho, hb⟩
theorem lo_image7 {ex : List Ob} (h : Lo w0 lo hi b rb q A B ex w) {V : List Int} (hV : A 2 = V) (h6 : V.length = 6) (hs : (A 3).length = 1 ∧ (A 4).length = 1 ∧ (A 5).length = 1) : Calls Try.prog 16 #[.pointer (some ⟨b, 0, none⟩)] w fun e w' => ∃ c t s vd gi oi ci vl vh vn, e = .returned (.agg #[vd, .slice (some ⟨gi, oi, none⟩) 6 ci, .int .u64 c, .int .u64 t, .int .u64 s, vl, vh, vn]) ∧ Lo w0 lo hi b rb q A B (ex ++ [rd .u64 (.slice (some ⟨gi, oi, none⟩) 6 ci) V]) w' := by
  have htop := h.top
  refine (lo_image h hs.1 hs.2.1 hs.2.2).mono ?_
  rintro e w' ⟨c, t, s, vd, vo, vl, vh, vn, he, hvo, hL⟩
  rw [hV] at hvo
  have hlt := World.ownsRow.lt hvo
  have hr := rdr_own hvo
  obtain ⟨gi, oi, ci, rfl, _, _, hc⟩ := hr.cell (by omega)
  rw [h6] at he hr
  refine ⟨c, t, s, vd, gi, oi, ci, vl, vh, vn, he, Lo_addD hL hr (fun g hg => ?_) fun i x hx g hg hg2 => ?_⟩
  · have h1 := blk_mem (v := .slice (some ⟨gi, oi, none⟩) 6 ci) hg
    have h2 := hlt g h1
    omega
  · have h1 := blk_mem (v := .slice (some ⟨gi, oi, none⟩) 6 ci) hg2
    have h2 := hlt g h1
    have := x.lt (h.is i x hx) g hg
    omega
end

theorem readable : ∀ t ∈ Try.f7.params.toList, Try.prog.readableRec t = true ∧ t < Try.prog.types.size := by
  have h : (Try.f7.params.toList.all fun t => Try.prog.readableRec t && decide (t < Try.prog.types.size)) = true := by kernel_rfl
  intro t ht
  have := List.all_eq_true.1 h t ht
  simpa using this

/-! The walk. -/
/-- What is left of the walk in 3 places, and that the contract rests on it. -/
noncomputable def Pc :
    { P : Prop × Prop × Prop // PLift P.1 → PLift P.2.1 → PLift P.2.2 → ∀ (w : World) (A0 : Option Addr) (n0 c0 : Nat) (l0 : n0 ≤ c0) (m0 : c0 ≤ maxLen) (s0 : ArgL.LL w A0 n0) (A1 : Option Addr) (n1 c1 : Nat) (z1 : List Int) (l1 : n1 ≤ c1) (m1 : c1 ≤ maxLen) (s1 : Ints .i64 w A1 n1 z1), Calls Try.prog 7 #[.slice A0 n0 c0, .slice A1 n1 c1] w fun e w' => e = .returned (.bool true) ∧ Kept w w' } := ⟨(_, _, _), fun h1p h2p h3p => by
  intro w A0 n0 c0 l0 m0 s0 A1 n1 c1 z1 l1 m1 s1
  obtain ⟨W, hW⟩ := l_wants s0 c0
  have HW := Lib.hid hW
  have HZ := Lib.hid s1
  obtain ⟨S, hSW⟩ : ∃ S : Nat → List Int, ∀ u, S u = srt (W u) := ⟨fun u => srt (W u), fun _ => rfl⟩
  have HS : Hid (SOk S) := Lib.hid (sok_of (fun t ht => ⟨(hW t ht).1, (hW t ht).2.1⟩) hSW)
  have HSW := Lib.hid hSW
  clear s0 s1 hW hSW l0 m0 l1 m1
  go_enter Try.func7, Try.ntmps7
  by_cases hbig : (80 : Int) < n1
  · go_wp2_with (go_at_call 41; (with_reducible refine (l_awake _).mono ?_); rintro e wz ⟨rfl, hbz⟩)
    have HB1 := Lib.hid hbz
    clear hbz
    go_ret
    exact ⟨rfl, .of_below HB1.out⟩
  · have hn80 : (n1 : Int) ≤ 80 := by omega
    clear hbig
    go_upto_region 4 with (first
      | (go_at_call 46; (with_reducible refine (l_config15 _).mono ?_); rintro e w1 ⟨rfl, hb1⟩)
      | (go_at_call 30; (with_reducible refine (l_start15 3 3 rfl (by decide) (by decide) _).mono ?_); rintro e w2 ⟨A, lo, hi, b, rb, rfl, hst⟩))
    have L0 : Hid (Lo w1 lo hi b rb q6 A A [] w2) := Lib.hid (Lo.begunN hst)
    have HA := Lib.hid (begun_six hst)
    have HB1 := Lib.hid hb1
    clear hst hb1
    have L1 := Lib.hid (L0.out.new TP #[.pointer (some ⟨b, 0, none⟩), .pointer (some ⟨rb, 0, none⟩)])
    obtain ⟨gp, hn⟩ : ∃ gp, w2.heap.size = gp := ⟨_, rfl⟩
    rw [hn] at L1
    first | rw [hn] | skip
    clear hn
    obtain ⟨W1, hW⟩ : ∃ W', w2.alloc (.cells #[.pointer (some ⟨b, 0, none⟩), .pointer (some ⟨rb, 0, none⟩)] TP) = W' := ⟨_, rfl⟩
    rw [hW] at L1
    first | rw [hW] | skip
    clear hW
    have L1 : Hid (Lo w1 lo hi b rb q6 A A [bx gp TP #[.pointer (some ⟨b, 0, none⟩), .pointer (some ⟨rb, 0, none⟩)]] W1) := L1
    clear L0
    go_upto_region 7 with (fail)
    have L2 := Lib.hid (L1.out.new TA3 #[.pointer none, .pointer none, .pointer none])
    obtain ⟨ga, hn⟩ : ∃ ga, W1.heap.size = ga := ⟨_, rfl⟩
    rw [hn] at L2
    first | rw [hn] | skip
    clear hn
    obtain ⟨W2, hW⟩ : ∃ W', W1.alloc (.cells #[.pointer none, .pointer none, .pointer none] TA3) = W' := ⟨_, rfl⟩
    rw [hW] at L2
    first | rw [hW] | skip
    clear hW
    have L2 : Hid (Lo w1 lo hi b rb q6 A A [bx gp TP #[.pointer (some ⟨b, 0, none⟩), .pointer (some ⟨rb, 0, none⟩)], bx ga TA3 #[.pointer none, .pointer none, .pointer none]] W2) := L2
    clear L1
    go_wp2_with fail
    have HI : Hid (ExI S (fun _ => 0) ⟨fun _ => 0, fun _ => false, fun _ => true, A 2⟩ (fun _ => nob) A) := Lib.hid (ex_start HA.out.1 HA.out.2)
    have L9 : Hid (Lo w1 lo hi b rb q6 A A ([bx gp TP #[.pointer (some ⟨b, 0, none⟩), .pointer (some ⟨rb, 0, none⟩)], bx ga TA3 (A3 fun u => ptrN ⟨fun _ => 0, fun _ => false, fun _ => true, A 2⟩ (fun _ => 0) u)] ++ Tn (fun _ => nob) 3) W2) := Lib.hid (lo_nobs L2.out)
    clear HA L2
    go_loopw [8] (fun iv wr => ∃ (i : Nat) (g : Nat → Nat) (s : SL) (o2 : Nat → Ob) (A2 : Int → List Int), i ≤ n1 ∧ iv = .int .i64 i ∧ Hid (ExI S g s o2 A2) ∧ Hid (Lo w1 lo hi b rb q6 A2 A ([bx gp TP #[.pointer (some ⟨b, 0, none⟩), .pointer (some ⟨rb, 0, none⟩)], bx ga TA3 (A3 fun u => ptrN s g u)] ++ Tn o2 3) wr)) (fun iv _ => n1 - (intOf iv).toNat)
    case atStart => exact ⟨0, fun _ => 0, ⟨fun _ => 0, fun _ => false, fun _ => true, A 2⟩, fun _ => nob, A, by omega, rfl, HI, L9⟩
    case round =>
      clear L9 HI
      obtain ⟨i, g, s, o2, A2, hin, rfl, HI, L0⟩ := hrel
      by_cases hlt : i < n1
      · have hltI : (i : Int) < n1 := by omega
        obtain ⟨bp, po, x, rfl, _, c1⟩ := iat HZ.out (below_trans2 HB1.out L0.out.old) hlt
        obtain ⟨t, ht, hpl⟩ := pl3 x
        have hkp := k_place x 3 t (by decide) (by decide) hpl
        have htI : (t : Int) < 3 := by omega
        have ht0 : (0 : Int) ≤ t := by omega
        clear hpl
        go_upto_region 11 with (go_at_call 11; (with_reducible refine (hkp _).mono ?_); rintro e w5 ⟨rfl, rfl⟩)
        clear hkp c1
        have c2 : wr.cell? ⟨ga, t, none⟩ = some (ptrN s g t) := L0.out.c 1 t rfl (a3_at ht)
        obtain ⟨pv, hpv⟩ : ∃ pv, ptrN s g t = pv := ⟨_, rfl⟩
        rw [hpv] at c2
        have HPV := Lib.hid hpv
        clear hpv
        obtain ⟨z, hz⟩ : ∃ z, s.n t = z := ⟨_, rfl⟩
        have heq : ∀ wx : World, (binOp BinOp.eql 80 pv (.pointer none)).run Try.prog wx = .ok (.bool z) wx := fun wx => by
          rw [← HPV.out, ← hz]
          unfold ptrN
          cases s.n t <;> kernel_rfl
        have hgu : ∀ (o1 o2 : Operand) (wx : World), (eqGuard BinOp.eql 80 o1 o2 pv (.pointer none)).run Try.prog wx = .ok () wx := fun o1 o2 wx => by
          rw [← HPV.out]
          unfold ptrN
          cases s.n t <;> rfl
        have HZN := Lib.hid hz
        clear hz
        go_upto_if 47 with (fail)
        go_cut [] (fun wc => ∃ (g : Nat → Nat) (s : SL) (o2 : Nat → Ob), Hid (s.n t = false) ∧ Hid (ExI S g s o2 A2) ∧ Hid (Lo w1 lo hi b rb q6 A2 A ([bx gp TP #[.pointer (some ⟨b, 0, none⟩), .pointer (some ⟨rb, 0, none⟩)], bx ga TA3 (A3 fun u => ptrN s g u)] ++ Tn o2 3) wc))
        case first =>
          rename_i Q'z1 hz1 Kz1 az1 leftz1 Q'z2 Kz2 az2 Kz3 az3 Jz1 K'z1 az4 az5
          revert w A0 n0 c0 n1 c1 z1 W HW S HS HSW hn80 Q'z1 hz1 w1 w2 A lo hi b rb HB1 gp W1 L1 Kz1 az1 ga W2 L2 wr u4 u9 u10 u11 u12 u13 u14 u15 u16 u17 u18 u19 u20 u21 u33 u34 u35 u36 u37 u38 u39 u40 u41 u42 u43 u44 u45 u46 u47 u48 u49 u50 u51 u52 u53 u54 u55 u56 u57 u58 u59 u60 u61 u62 u63 u64 u65 u66 u67 u68 u69 u70 u71 u72 u73 u74 u75 u76 u77 u78 u79 u80 u81 u82 u83 u84 u85 u86 u87 u88 u89 u90 u91 u92 u93 u94 u95 u96 u97 u98 u99 u100 u101 u102 u103 u104 u105 u106 u107 u108 u109 u110 u111 u112 u113 u114 u115 u116 u117 u118 u119 u120 u121 u122 u123 u124 u125 u126 u127 u128 u129 u130 u131 u132 u133 u134 u135 u136 u137 u138 u139 u140 u141 u142 u143 u144 u145 u146 u147 u148 u149 u150 u151 u152 u153 u154 u155 u156 u157 u158 u159 u160 u161 u162 u163 u164 u165 u166 u167 u168 u169 u170 u171 u172 u173 u174 u175 u176 u177 u178 u179 u180 u181 u182 u183 u184 u185 u186 u187 u188 u189 u190 u191 u192 u193 u194 u195 u196 u197 u198 u199 u200 u201 u202 u203 u204 u205 i g s o2 A2 hin HI L0 hlt hltI bp po x HZ leftz1 t ht htI ht0 Q'z2 Kz2 az2 Kz3 az3 pv c2 HPV z heq hgu HZN Jz1 K'z1 az4 az5
          exact h1p.down
        case rest =>
          clear HI L0 c2 heq hgu HPV HZN
          obtain ⟨g, s, o2, HN, HI, L0⟩ := hcut
          have hptr : ptrN s g t = ptrV (g t) := by unfold ptrN; rw [HN.out]; rfl
          have c2 : wc.cell? ⟨ga, t, none⟩ = some (ptrV (g t)) := (L0.out.c 1 t rfl (a3_at ht)).trans (by rw [hptr])
          have c3 : wc.cell? ⟨gp, 0, none⟩ = some (.pointer (some ⟨b, 0, none⟩)) := L0.out.c 0 0 rfl rfl
          obtain ⟨vl, vo, f, hf, hot⟩ := HI.out.ob t ht HN.out
          have hat : ([bx gp TP #[.pointer (some ⟨b, 0, none⟩), .pointer (some ⟨rb, 0, none⟩)], bx ga TA3 (A3 fun u => ptrN s g u)] ++ Tn o2 3)[2 + t]? = some (lkM (g t) t vl vo (lst S t (s.k t) (s.r t) f)) := by rw [← hot]; exact lo_at ht
          have hle := HI.out.le t ht HN.out
          have heff : eff s t = s.k t := by unfold eff; rw [HN.out]; rfl
          obtain ⟨z, hz⟩ : ∃ z, decide (s.k t = (S t).length) = z := ⟨_, rfl⟩
          have hdn := x_done L0.out hat (D := z) (Lib.hid (by simpa using hz))
          have HZN := Lib.hid hz
          clear hz
          go_upto_if 62 with (go_at_call 49; (with_reducible refine hdn.mono ?_); rintro e w3 ⟨rfl, rfl⟩)
          clear hdn
          go_cut [] (fun wc => ∃ (s : SL) (o2 : Nat → Ob) (A2 : Int → List Int), Hid (ExI S g s o2 A2) ∧ Hid (Lo w1 lo hi b rb q6 A2 A ([bx gp TP #[.pointer (some ⟨b, 0, none⟩), .pointer (some ⟨rb, 0, none⟩)], bx ga TA3 (A3 fun u => ptrN s g u)] ++ Tn o2 3) wc))
          case first =>
            rename_i Q'z1 hz1 Kz1 az1 u33z1 u34z1 u35z1 u36z1 u37z1 u38z1 u39z1 u40z1 u41z1 u42z1 u43z1 u44z1 u45z1 u46z1 u47z1 u48z1 u49z1 u50z1 u51z1 u52z1 u53z1 u54z1 u55z1 u56z1 u57z1 u58z1 u59z1 u60z1 u61z1 u62z1 u63z1 u64z1 u65z1 u66z1 u67z1 u68z1 u69z1 u70z1 u71z1 u72z1 u73z1 u74z1 u75z1 u76z1 u77z1 u78z1 u79z1 u80z1 u81z1 u82z1 u83z1 u84z1 u85z1 u86z1 u87z1 u88z1 u89z1 u90z1 u91z1 u92z1 u93z1 u94z1 u95z1 u96z1 u97z1 u98z1 u99z1 u100z1 u101z1 u102z1 u103z1 u104z1 u105z1 u106z1 u107z1 u108z1 u109z1 u110z1 u111z1 u112z1 u113z1 u114z1 u115z1 u116z1 u117z1 u118z1 u119z1 u120z1 u121z1 u122z1 u123z1 u124z1 u125z1 u126z1 u127z1 u128z1 u129z1 u130z1 u131z1 u132z1 u133z1 u134z1 u135z1 u136z1 u137z1 u138z1 u139z1 u140z1 u141z1 u142z1 u143z1 u144z1 u145z1 u146z1 u147z1 u148z1 u149z1 u150z1 u151z1 u152z1 u153z1 u154z1 u155z1 u156z1 u157z1 u158z1 u159z1 u160z1 u161z1 u162z1 u163z1 u164z1 u165z1 u166z1 u167z1 u168z1 u169z1 u170z1 u171z1 u172z1 u173z1 u174z1 u175z1 u176z1 u177z1 u178z1 u179z1 u180z1 u181z1 u182z1 u183z1 u184z1 u185z1 u186z1 u187z1 u188z1 u189z1 u190z1 u191z1 u192z1 u193z1 u194z1 u195z1 u196z1 u197z1 u198z1 u199z1 u200z1 u201z1 u202z1 u203z1 u204z1 u205z1 gz1 sz1 o2z1 leftz1 Q'z2 Kz2 az2 zz1 Kz3 az3 Jz1 K'z1 az4 az5
            revert w A0 n0 c0 n1 c1 z1 W HW S HS HSW hn80 Q'z1 hz1 w1 w2 A lo hi b rb HB1 gp W1 L1 Kz1 az1 ga W2 L2 wr u4 u9 u10 u11 u12 u13 u14 u15 u16 u17 u18 u19 u20 u21 u33z1 u34z1 u35z1 u36z1 u37z1 u38z1 u39z1 u40z1 u41z1 u42z1 u43z1 u44z1 u45z1 u46z1 u47z1 u48z1 u49z1 u50z1 u51z1 u52z1 u53z1 u54z1 u55z1 u56z1 u57z1 u58z1 u59z1 u60z1 u61z1 u62z1 u63z1 u64z1 u65z1 u66z1 u67z1 u68z1 u69z1 u70z1 u71z1 u72z1 u73z1 u74z1 u75z1 u76z1 u77z1 u78z1 u79z1 u80z1 u81z1 u82z1 u83z1 u84z1 u85z1 u86z1 u87z1 u88z1 u89z1 u90z1 u91z1 u92z1 u93z1 u94z1 u95z1 u96z1 u97z1 u98z1 u99z1 u100z1 u101z1 u102z1 u103z1 u104z1 u105z1 u106z1 u107z1 u108z1 u109z1 u110z1 u111z1 u112z1 u113z1 u114z1 u115z1 u116z1 u117z1 u118z1 u119z1 u120z1 u121z1 u122z1 u123z1 u124z1 u125z1 u126z1 u127z1 u128z1 u129z1 u130z1 u131z1 u132z1 u133z1 u134z1 u135z1 u136z1 u137z1 u138z1 u139z1 u140z1 u141z1 u142z1 u143z1 u144z1 u145z1 u146z1 u147z1 u148z1 u149z1 u150z1 u151z1 u152z1 u153z1 u154z1 u155z1 u156z1 u157z1 u158z1 u159z1 u160z1 u161z1 u162z1 u163z1 u164z1 u165z1 u166z1 u167z1 u168z1 u169z1 u170z1 u171z1 u172z1 u173z1 u174z1 u175z1 u176z1 u177z1 u178z1 u179z1 u180z1 u181z1 u182z1 u183z1 u184z1 u185z1 u186z1 u187z1 u188z1 u189z1 u190z1 u191z1 u192z1 u193z1 u194z1 u195z1 u196z1 u197z1 u198z1 u199z1 u200z1 u201z1 u202z1 u203z1 u204z1 u205z1 i gz1 sz1 o2z1 A2 hin hlt hltI bp po x HZ leftz1 t ht htI ht0 Q'z2 Kz2 az2 pv zz1 wc u33 u34 u35 u36 u37 u38 u39 u40 u41 u42 u43 u44 u45 u46 u47 u48 u49 u50 u51 u52 u53 u54 u55 u56 u57 u58 u59 u60 u61 u62 u63 u64 u65 u66 u67 u68 u69 u70 u71 u72 u73 u74 u75 u76 u77 u78 u79 u80 u81 u82 u83 u84 u85 u86 u87 u88 u89 u90 u91 u92 u93 u94 u95 u96 u97 u98 u99 u100 u101 u102 u103 u104 u105 u106 u107 u108 u109 u110 u111 u112 u113 u114 u115 u116 u117 u118 u119 u120 u121 u122 u123 u124 u125 u126 u127 u128 u129 u130 u131 u132 u133 u134 u135 u136 u137 u138 u139 u140 u141 u142 u143 u144 u145 u146 u147 u148 u149 u150 u151 u152 u153 u154 u155 u156 u157 u158 u159 u160 u161 u162 u163 u164 u165 u166 u167 u168 u169 u170 u171 u172 u173 u174 u175 u176 u177 u178 u179 u180 u181 u182 u183 u184 u185 u186 u187 u188 u189 u190 u191 u192 u193 u194 u195 u196 u197 u198 u199 u200 u201 u202 u203 u204 u205 g s o2 HN HI L0 hptr c2 c3 vl vo f hf hot hat hle heff z HZN Kz3 az3 Jz1 K'z1 az4 az5
            exact h2p.down
          case rest =>
            clear HI L0 c2 c3 hot hat hle heff hf hptr HZN HN
            obtain ⟨s, o2, A2, HI, L0⟩ := hcut
            obtain ⟨V, hV⟩ : ∃ V, A2 2 = V := ⟨_, rfl⟩
            have HG : Hid (GI S (eff s) V) := Lib.hid (by rw [← hV]; exact HI.out.gi)
            have him := lo_image7 L0.out hV HG.out.len HI.out.one
            have hfl := @fld_orec
            have c3 : wc.cell? ⟨gp, 0, none⟩ = some (.pointer (some ⟨b, 0, none⟩)) := L0.out.c 0 0 rfl rfl
            clear hV
            go_upto_region 27 with (go_at_call 16; (with_reducible refine him.mono ?_); rintro e w6 ⟨ic, it, is_, vd, gi, oi, ci, vl, vh, vn, rfl, hLi⟩)
            have L1 : Hid (Lo w1 lo hi b rb q6 A2 A (([bx gp TP #[.pointer (some ⟨b, 0, none⟩), .pointer (some ⟨rb, 0, none⟩)], bx ga TA3 (A3 fun u => ptrN s g u)] ++ Tn o2 3) ++ [rd .u64 (.slice (some ⟨gi, oi, none⟩) 6 ci) V]) w6) := Lib.hid hLi
            clear him hfl hLi c3 L0
            go_upto_region 30 with (fail)
            have L2 := Lib.hid (L1.out.newR TH6 (IH (List.replicate 6 0)))
            obtain ⟨gh, hgh⟩ : ∃ gh, w6.heap.size = gh := ⟨_, rfl⟩
            rw [hgh] at L2
            first | rw [hgh] | skip
            clear hgh
            obtain ⟨W7, hW7⟩ : ∃ W', w6.alloc (.cells #[.int .i64 0, .int .i64 0, .int .i64 0, .int .i64 0, .int .i64 0, .int .i64 0] TH6) = W' := ⟨_, rfl⟩
            have L3 : Hid (Lo w1 lo hi b rb q6 A2 A (([bx gp TP #[.pointer (some ⟨b, 0, none⟩), .pointer (some ⟨rb, 0, none⟩)], bx ga TA3 (A3 fun u => ptrN s g u)] ++ Tn o2 3) ++ [rd .u64 (.slice (some ⟨gi, oi, none⟩) 6 ci) V, bx gh TH6 (IH (List.replicate 6 0))]) (w6.alloc (.cells #[.int .i64 0, .int .i64 0, .int .i64 0, .int .i64 0, .int .i64 0, .int .i64 0] TH6))) := L2
            rw [hW7] at L3
            first | rw [hW7] | skip
            clear hW7 L1 L2
            go_wp2_with fail
            go_loopw [16] (fun iv wr => ∃ (p : Nat) (H : List Int), p ≤ 6 ∧ iv = .int .i64 p ∧ Hid (H.length = 6 ∧ ∀ j, j < p → H.getD j 0 = -1) ∧ Hid (Lo w1 lo hi b rb q6 A2 A (([bx gp TP #[.pointer (some ⟨b, 0, none⟩), .pointer (some ⟨rb, 0, none⟩)], bx ga TA3 (A3 fun u => ptrN s g u)] ++ Tn o2 3) ++ [rd .u64 (.slice (some ⟨gi, oi, none⟩) 6 ci) V, bx gh TH6 (IH H)]) wr)) (fun iv _ => 6 - (intOf iv).toNat)
            case atStart => exact ⟨0, List.replicate 6 0, by omega, rfl, Lib.hid ⟨rfl, fun j h => absurd h (Nat.not_lt_zero _)⟩, L3⟩
            case round =>
              clear L3
              obtain ⟨p, H, hp6, rfl, HH, L3⟩ := hrel
              by_cases hp : p < 6
              · have hpI : (p : Int) < 6 := by omega
                have hp0 : (0 : Int) ≤ p := by omega
                have hc := ih_at (H := H) (p := p) (by rw [HH.out.1]; exact hp)
                have c1 : wr.cell? ⟨gh, p, none⟩ = some (.int .i64 (H.getD p 0)) := L3.out.cR 1 p rfl hc
                have c2 : wr.frozen? ⟨gh, p, none⟩ = false := L3.out.zR 1 p rfl
                have L4 : Hid (Lo w1 lo hi b rb q6 A2 A (([bx gp TP #[.pointer (some ⟨b, 0, none⟩), .pointer (some ⟨rb, 0, none⟩)], bx ga TA3 (A3 fun u => ptrN s g u)] ++ Tn o2 3) ++ [rd .u64 (.slice (some ⟨gi, oi, none⟩) 6 ci) V, bx gh TH6 (IH (H.set p (-1)))]) (wr.setCell ⟨gh, p, none⟩ (.int .i64 (-1)))) := Lib.hid (L3.out.putR 1 p (.int .i64 (-1)) rfl (ih_set (-1)))
                have HH2 : Hid ((H.set p (-1)).length = 6 ∧ ∀ j, j < p + 1 → (H.set p (-1)).getD j 0 = -1) := Lib.hid ⟨by rw [List.length_set]; exact HH.out.1, fun j hj => by
                  rw [getD_set (by rw [HH.out.1]; exact hp)]
                  split
                  · rfl
                  · exact HH.out.2 j (by omega)⟩
                clear L3 HH hc
                go_wp2_with fail
                go_roundw
                case rel => exact ⟨p + 1, _, by omega, by go_num, HH2, L4⟩
                case measure => simp [intOf]; omega
              · have hge : (6 : Int) ≤ p := by omega
                have HGH : Hid (GH S (ghK (eff s) 0 0) H) := Lib.hid (gh_begin HH.out.1 fun j hj => HH.out.2 j (by omega))
                clear hp hp6 HH
                go_wp2_with fail
                go_loopw [17] (fun iv wr => ∃ (u : Nat) (H : List Int), u ≤ 3 ∧ iv = .int .i64 u ∧ Hid (GH S (ghK (eff s) u 0) H) ∧ Hid (Lo w1 lo hi b rb q6 A2 A (([bx gp TP #[.pointer (some ⟨b, 0, none⟩), .pointer (some ⟨rb, 0, none⟩)], bx ga TA3 (A3 fun u => ptrN s g u)] ++ Tn o2 3) ++ [rd .u64 (.slice (some ⟨gi, oi, none⟩) 6 ci) V, bx gh TH6 (IH H)]) wr)) (fun iv _ => 3 - (intOf iv).toNat)
                case atStart => exact ⟨0, H, by omega, rfl, HGH, L3⟩
                case round =>
                  clear L3 HGH
                  obtain ⟨u, H, hu3, rfl, HGH, L3⟩ := hrel
                  by_cases hu : u < 3
                  · have huI : (u : Int) < 3 := by omega
                    have hu0 : (0 : Int) ≤ u := by omega
                    have c2 : wr.cell? ⟨ga, u, none⟩ = some (ptrN s g u) := L3.out.c 1 u rfl (a3_at hu)
                    cases hn : s.n u with
                    | true =>
                      have hpn : ptrN s g u = .pointer none := by unfold ptrN; rw [hn]; rfl
                      rw [hpn] at c2
                      have HG2 : Hid (GH S (ghK (eff s) (u + 1) 0) H) := Lib.hid (gh_thread (by rw [show eff s u = 0 by unfold eff; rw [hn]; rfl]; exact HGH.out))
                      clear hn hpn HGH
                      go_wp2_with fail
                      go_roundw
                      case rel => exact ⟨u + 1, H, by omega, by go_num, HG2, L3⟩
                      case measure => simp [intOf]; omega
                    | false =>
                      have hpn : ptrN s g u = ptrV (g u) := by unfold ptrN; rw [hn]; rfl
                      rw [hpn] at c2
                      have heff : eff s u = s.k u := by unfold eff; rw [hn]; rfl
                      obtain ⟨vl, vo, f, hf, hot⟩ := HI.out.ob u hu hn
                      have hle := HI.out.le u hu hn
                      have hat : (([bx gp TP #[.pointer (some ⟨b, 0, none⟩), .pointer (some ⟨rb, 0, none⟩)], bx ga TA3 (A3 fun u => ptrN s g u)] ++ Tn o2 3) ++ [rd .u64 (.slice (some ⟨gi, oi, none⟩) 6 ci) V, bx gh TH6 (IH H)])[2 + u]? = some (lkM (g u) u vl vo (lst S u (s.k u) (s.r u) f)) := by rw [← hot]; exact ex_left (lo_at (X := [bx gp TP #[.pointer (some ⟨b, 0, none⟩), .pointer (some ⟨rb, 0, none⟩)], bx ga TA3 (A3 fun u => ptrN s g u)]) hu)
                      have hB := below_trans2 HB1.out L3.out.old
                      obtain ⟨hw8, hw5, hwa⟩ := HW.out u hu
                      have hwa : Calls _ _ _ wr.drew _ := hwa wr.drew (below_drewN hB 1)
                      have hso := fun (W3 : World) (p : Option Addr) (c : Nat) (hr : RdR .i64 W3 (.slice p (W u).length c) (W u)) => k_sorted W3 (.slice p (W u).length c) (W u) hr.slice (by omega)
                      obtain ⟨m, hm⟩ : ∃ m, s.k u = m := ⟨_, rfl⟩
                      obtain ⟨mu, hmu⟩ : ∃ mu, (S u).length = mu := ⟨_, rfl⟩
                      have hold := fun (W : World) (hb : Below wr.drew.heap.size wr.drew W) => z_old3 (L3.out.drew.below hb) hat (lst_ok HS.out hu hle hf) hm
                      have hmm : m ≤ mu := by rw [← hm, ← hmu]; exact hle
                      have hm8 : mu ≤ 8 := by rw [← hmu]; exact HS.out.few u hu
                      have HM := Lib.hid hmu
                      have HEF : Hid (eff s u = m) := Lib.hid (heff.trans hm)
                      have hkk : ∀ (W : World), Below wr.drew.heap.size wr.drew W → (fun W : World => W.cell? ⟨ga, u, none⟩ = some (ptrV (g u))) W := fun W hb => ((L3.out.drew.below hb).c 1 u rfl (a3_at hu)).trans (by rw [hpn])
                      have hs0 : (fun W : World => W.cell? ⟨ga, u, none⟩ = some (ptrV (g u))) wr.drew := hkk _ (Below.refl _ _)
                      clear hB hle hf hot heff hm hmu hn
                      go_upto_region 38 with (fail)
                      go_region_held3 (fun W : World => W.cell? ⟨ga, u, none⟩ = some (ptrV (g u))) (first | (with_reducible exact hs0) | (with_reducible assumption)) (first
                        | (go_at_call 48; (with_reducible refine hwa.mono ?_); rintro e w4 ⟨pw, cw, rfl, hrw, hbw⟩; have hso := hso _ _ _ hrw; have hk1 := hkk _ hbw)
                        | (go_at_call 44; (with_reducible refine hso.mono ?_); rintro e w5 ⟨v5, rfl, ho5, hb5⟩; rw [← HSW.out u, HM.out] at ho5; obtain ⟨p5, c5, rfl, _⟩ := own_slice ho5; have hb15 := below_trans2 hbw hb5; have hold := hold _ hb15; have hk2 := hkk _ hb15)
                        | (go_at_call 50; (with_reducible refine hold.mono ?_); rintro e w6 ⟨p6, c6, rfl, ho6, hb6⟩; have hk3 := hkk _ (below_trans2 hb15 hb6)))
                      rw [← HM.out] at ho5
                      have L4 : Hid (Lo w1 lo hi b rb q6 A2 A (([bx gp TP #[.pointer (some ⟨b, 0, none⟩), .pointer (some ⟨rb, 0, none⟩)], bx ga TA3 (A3 fun u => ptrN s g u)] ++ Tn o2 3) ++ [rd .u64 (.slice (some ⟨gi, oi, none⟩) 6 ci) V, bx gh TH6 (IH H), rd .i64 (.slice p5 mu c5) (S u)]) w5) := Lib.hid (Lo.addR (rs := [rd .u64 (.slice (some ⟨gi, oi, none⟩) 6 ci) V, bx gh TH6 (IH H)]) (L3.out.drew.below hbw) hb5 (o := rd .i64 (.slice p5 mu c5) (S u)) (by have := rdr_own ho5; rw [HM.out] at this; exact this) fun x hx => (World.ownsRow.lt ho5 x (blk_mem (v := .slice p5 (S u).length c5) (by rw [HM.out]; exact hx))).1)
                      have L5 : Hid (Lo w1 lo hi b rb q6 A2 A (([bx gp TP #[.pointer (some ⟨b, 0, none⟩), .pointer (some ⟨rb, 0, none⟩)], bx ga TA3 (A3 fun u => ptrN s g u)] ++ Tn o2 3) ++ [rd .u64 (.slice (some ⟨gi, oi, none⟩) 6 ci) V, bx gh TH6 (IH H), rd .i64 (.slice p5 mu c5) (S u), rd .u64 (.slice p6 m c6) (List.replicate m 0)]) w6) := Lib.hid (Lo.addR (rs := [rd .u64 (.slice (some ⟨gi, oi, none⟩) 6 ci) V, bx gh TH6 (IH H), rd .i64 (.slice p5 mu c5) (S u)]) L4.out hb6 (o := rd .u64 (.slice p6 m c6) (List.replicate m 0)) (rdr_own ho6) fun x hx => (World.ownsRow.lt ho6 x (blk_mem (v := .slice p6 m c6) hx)).1)
                      have HGJ : Hid (GH S (ghK (eff s) u 0) H) := HGH
                      clear hwa hso hold hrw hbw ho5 hb5 hb15 ho6 hb6 hkk hs0 hk1 hk2 hk3 hat L3 L4 HGH hpn
                      go_wp2_with fail
                      go_loopw [20] (fun iv wr => ∃ (j : Nat) (H : List Int), j ≤ m ∧ iv = .int .i64 j ∧ Hid (GH S (ghK (eff s) u j) H) ∧ Hid (Lo w1 lo hi b rb q6 A2 A (([bx gp TP #[.pointer (some ⟨b, 0, none⟩), .pointer (some ⟨rb, 0, none⟩)], bx ga TA3 (A3 fun u => ptrN s g u)] ++ Tn o2 3) ++ [rd .u64 (.slice (some ⟨gi, oi, none⟩) 6 ci) V, bx gh TH6 (IH H), rd .i64 (.slice p5 mu c5) (S u), rd .u64 (.slice p6 m c6) (List.replicate m 0)]) wr)) (fun iv _ => m - (intOf iv).toNat)
                      case atStart => exact ⟨0, H, by omega, rfl, HGJ, L5⟩
                      case round =>
                        clear L5 HGJ
                        obtain ⟨j, H, hjm, rfl, HGJ, L5⟩ := hrel
                        by_cases hj : j < m
                        · have hjI : (j : Int) < m := by omega
                          rename_i Q'z1 hz1 Kz1 az1 wrz1 u4z1 u10z1 u11z1 u12z1 u13z1 u18z1 u19z1 u20z1 u33z1 u34z1 u35z1 u36z1 u37z1 u38z1 u39z1 u40z1 u41z1 u42z1 u43z1 u44z1 u45z1 u46z1 u47z1 u48z1 u49z1 u50z1 u51z1 u52z1 u53z1 u54z1 u55z1 u56z1 u57z1 u58z1 u59z1 u60z1 u61z1 u62z1 u63z1 u64z1 u65z1 u66z1 u67z1 u68z1 u69z1 u70z1 u71z1 u72z1 u73z1 u74z1 u75z1 u76z1 u77z1 u78z1 u79z1 u80z1 u81z1 u82z1 u83z1 u84z1 u85z1 u86z1 u87z1 u88z1 u89z1 u90z1 u91z1 u92z1 u93z1 u94z1 u95z1 u96z1 u97z1 u98z1 u99z1 u100z1 u101z1 u102z1 u103z1 u104z1 u105z1 u106z1 u107z1 u108z1 u109z1 u110z1 u111z1 u112z1 u113z1 u114z1 u115z1 u116z1 u117z1 u118z1 u119z1 u120z1 u121z1 u122z1 u123z1 u124z1 u125z1 u126z1 u127z1 u128z1 u129z1 u130z1 u131z1 u132z1 u133z1 u134z1 u135z1 u136z1 u137z1 u138z1 u139z1 u140z1 u141z1 u142z1 u143z1 u144z1 u145z1 u146z1 u147z1 u148z1 u149z1 u150z1 u151z1 u152z1 u153z1 u154z1 u155z1 u156z1 u157z1 u158z1 u159z1 u160z1 u161z1 u162z1 u163z1 u164z1 u165z1 u166z1 u167z1 u168z1 u169z1 u170z1 u171z1 u172z1 u173z1 u174z1 u175z1 u176z1 u177z1 u178z1 u179z1 u180z1 u181z1 u182z1 u183z1 u184z1 u185z1 u186z1 u187z1 u188z1 u189z1 u190z1 u191z1 u192z1 u193z1 u194z1 u195z1 u196z1 u197z1 u198z1 u199z1 u200z1 u201z1 u202z1 u203z1 u204z1 u205z1 gz1 sz1 o2z1 A2z1 leftz1 Q'z2 Kz2 az2 zz1 wcz1 u33z2 u34z2 u35z2 u36z2 u37z2 u38z2 u39z2 u40z2 u41z2 u42z2 u43z2 u44z2 u45z2 u46z2 u47z2 u48z2 u49z2 u50z2 u51z2 u52z2 u53z2 u54z2 u55z2 u56z2 u57z2 u58z2 u59z2 u60z2 u61z2 u62z2 u63z2 u64z2 u65z2 u66z2 u67z2 u68z2 u69z2 u70z2 u71z2 u72z2 u73z2 u74z2 u75z2 u76z2 u77z2 u78z2 u79z2 u80z2 u81z2 u82z2 u83z2 u84z2 u85z2 u86z2 u87z2 u88z2 u89z2 u90z2 u91z2 u92z2 u93z2 u94z2 u95z2 u96z2 u97z2 u98z2 u99z2 u100z2 u101z2 u102z2 u103z2 u104z2 u105z2 u106z2 u107z2 u108z2 u109z2 u110z2 u111z2 u112z2 u113z2 u114z2 u115z2 u116z2 u117z2 u118z2 u119z2 u120z2 u121z2 u122z2 u123z2 u124z2 u125z2 u126z2 u127z2 u128z2 u129z2 u130z2 u131z2 u132z2 u133z2 u134z2 u135z2 u136z2 u137z2 u138z2 u139z2 u140z2 u141z2 u142z2 u143z2 u144z2 u145z2 u146z2 u147z2 u148z2 u149z2 u150z2 u151z2 u152z2 u153z2 u154z2 u155z2 u156z2 u157z2 u158z2 u159z2 u160z2 u161z2 u162z2 u163z2 u164z2 u165z2 u166z2 u167z2 u168z2 u169z2 u170z2 u171z2 u172z2 u173z2 u174z2 u175z2 u176z2 u177z2 u178z2 u179z2 u180z2 u181z2 u182z2 u183z2 u184z2 u185z2 u186z2 u187z2 u188z2 u189z2 u190z2 u191z2 u192z2 u193z2 u194z2 u195z2 u196z2 u197z2 u198z2 u199z2 u200z2 u201z2 u202z2 u203z2 u204z2 u205z2 sz2 o2z2 vlz1 voz1 fz1 u4z2 u101z3 u102z3 u103z3 u104z3 u105z3 u106z3 u107z3 u108z3 u109z3 u110z3 u111z3 u112z3 u113z3 u114z3 u115z3 u116z3 u117z3 u118z3 u119z3 u120z3 u121z3 u122z3 u123z3 u124z3 u125z3 u126z3 u127z3 u128z3 u129z3 u130z3 u131z3 u132z3 u133z3 u134z3 u135z3 u136z3 u137z3 u138z3 u139z3 u140z3 u141z3 u142z3 u143z3 u144z3 u145z3 u146z3 u147z3 u148z3 u149z3 u150z3 u151z3 u152z3 u153z3 u154z3 u155z3 u156z3 u157z3 u158z3 u159z3 u160z3 u161z3 u162z3 u163z3 u164z3 u165z3 u166z3 u167z3 u168z3 u169z3 u170z3 u171z3 u172z3 u173z3 u174z3 u175z3 u176z3 u177z3 u178z3 u179z3 u180z3 u181z3 u182z3 u183z3 u184z3 u185z3 u186z3 u187z3 u188z3 u189z3 w6z1 vlz2 Kz3 wrz2 Hz1 Q'z3 Kz4 az3 hz2 Kz5 az4 wrz3 u4z3 u123z4 u124z4 u125z4 u126z4 u127z4 u128z4 u129z4 u130z4 u131z4 u132z4 u133z4 u134z4 u135z4 u136z4 u137z4 u138z4 u139z4 u140z4 u141z4 u142z4 u143z4 u144z4 u145z4 u146z4 u147z4 u148z4 u149z4 u150z4 u151z4 u152z4 u153z4 u154z4 u155z4 u156z4 u157z4 u158z4 u159z4 u160z4 u161z4 u162z4 u163z4 u164z4 u165z4 u166z4 u167z4 u168z4 u169z4 u170z4 u171z4 u172z4 u173z4 u174z4 u175z4 u176z4 u177z4 u178z4 u179z4 u180z4 u181z4 u182z4 u183z4 u184z4 u185z4 u186z4 u187z4 u188z4 u189z4 Hz2 Q'z4 Kz6 az5 rightz1 hHeldz1
                          revert w A0 n0 c0 n1 c1 z1 W HW S HS HSW hn80 Q'z1 hz1 w1 w2 A lo hi b rb HB1 gp W1 L1 Kz1 az1 ga W2 L2 wrz1 u4z1 u9 u10z1 u11z1 u12z1 u13z1 u14 u15 u16 u17 u18z1 u19z1 u20z1 u21 u33z1 u34z1 u35z1 u36z1 u37z1 u38z1 u39z1 u40z1 u41z1 u42z1 u43z1 u44z1 u45z1 u46z1 u47z1 u48z1 u49z1 u50z1 u51z1 u52z1 u53z1 u54z1 u55z1 u56z1 u57z1 u58z1 u59z1 u60z1 u61z1 u62z1 u63z1 u64z1 u65z1 u66z1 u67z1 u68z1 u69z1 u70z1 u71z1 u72z1 u73z1 u74z1 u75z1 u76z1 u77z1 u78z1 u79z1 u80z1 u81z1 u82z1 u83z1 u84z1 u85z1 u86z1 u87z1 u88z1 u89z1 u90z1 u91z1 u92z1 u93z1 u94z1 u95z1 u96z1 u97z1 u98z1 u99z1 u100z1 u101z1 u102z1 u103z1 u104z1 u105z1 u106z1 u107z1 u108z1 u109z1 u110z1 u111z1 u112z1 u113z1 u114z1 u115z1 u116z1 u117z1 u118z1 u119z1 u120z1 u121z1 u122z1 u123z1 u124z1 u125z1 u126z1 u127z1 u128z1 u129z1 u130z1 u131z1 u132z1 u133z1 u134z1 u135z1 u136z1 u137z1 u138z1 u139z1 u140z1 u141z1 u142z1 u143z1 u144z1 u145z1 u146z1 u147z1 u148z1 u149z1 u150z1 u151z1 u152z1 u153z1 u154z1 u155z1 u156z1 u157z1 u158z1 u159z1 u160z1 u161z1 u162z1 u163z1 u164z1 u165z1 u166z1 u167z1 u168z1 u169z1 u170z1 u171z1 u172z1 u173z1 u174z1 u175z1 u176z1 u177z1 u178z1 u179z1 u180z1 u181z1 u182z1 u183z1 u184z1 u185z1 u186z1 u187z1 u188z1 u189z1 u190z1 u191z1 u192z1 u193z1 u194z1 u195z1 u196z1 u197z1 u198z1 u199z1 u200z1 u201z1 u202z1 u203z1 u204z1 u205z1 i gz1 sz1 o2z1 A2z1 hin hlt hltI bp po x HZ leftz1 t ht htI ht0 Q'z2 Kz2 az2 pv zz1 wcz1 u33z2 u34z2 u35z2 u36z2 u37z2 u38z2 u39z2 u40z2 u41z2 u42z2 u43z2 u44z2 u45z2 u46z2 u47z2 u48z2 u49z2 u50z2 u51z2 u52z2 u53z2 u54z2 u55z2 u56z2 u57z2 u58z2 u59z2 u60z2 u61z2 u62z2 u63z2 u64z2 u65z2 u66z2 u67z2 u68z2 u69z2 u70z2 u71z2 u72z2 u73z2 u74z2 u75z2 u76z2 u77z2 u78z2 u79z2 u80z2 u81z2 u82z2 u83z2 u84z2 u85z2 u86z2 u87z2 u88z2 u89z2 u90z2 u91z2 u92z2 u93z2 u94z2 u95z2 u96z2 u97z2 u98z2 u99z2 u100z2 u101z2 u102z2 u103z2 u104z2 u105z2 u106z2 u107z2 u108z2 u109z2 u110z2 u111z2 u112z2 u113z2 u114z2 u115z2 u116z2 u117z2 u118z2 u119z2 u120z2 u121z2 u122z2 u123z2 u124z2 u125z2 u126z2 u127z2 u128z2 u129z2 u130z2 u131z2 u132z2 u133z2 u134z2 u135z2 u136z2 u137z2 u138z2 u139z2 u140z2 u141z2 u142z2 u143z2 u144z2 u145z2 u146z2 u147z2 u148z2 u149z2 u150z2 u151z2 u152z2 u153z2 u154z2 u155z2 u156z2 u157z2 u158z2 u159z2 u160z2 u161z2 u162z2 u163z2 u164z2 u165z2 u166z2 u167z2 u168z2 u169z2 u170z2 u171z2 u172z2 u173z2 u174z2 u175z2 u176z2 u177z2 u178z2 u179z2 u180z2 u181z2 u182z2 u183z2 u184z2 u185z2 u186z2 u187z2 u188z2 u189z2 u190z2 u191z2 u192z2 u193z2 u194z2 u195z2 u196z2 u197z2 u198z2 u199z2 u200z2 u201z2 u202z2 u203z2 u204z2 u205z2 g sz2 o2z2 vlz1 voz1 fz1 z wc u4z2 u10 u11 u12 u13 u33 u34 u35 u36 u37 u38 u39 u40 u41 u42 u43 u44 u45 u46 u47 u48 u49 u50 u51 u52 u53 u54 u55 u56 u57 u58 u59 u60 u61 u62 u63 u64 u65 u66 u67 u68 u69 u70 u71 u72 u73 u74 u75 u76 u77 u78 u79 u80 u81 u82 u83 u84 u85 u86 u87 u88 u89 u90 u91 u92 u93 u94 u95 u96 u97 u98 u99 u100 u101z3 u102z3 u103z3 u104z3 u105z3 u106z3 u107z3 u108z3 u109z3 u110z3 u111z3 u112z3 u113z3 u114z3 u115z3 u116z3 u117z3 u118z3 u119z3 u120z3 u121z3 u122z3 u123z3 u124z3 u125z3 u126z3 u127z3 u128z3 u129z3 u130z3 u131z3 u132z3 u133z3 u134z3 u135z3 u136z3 u137z3 u138z3 u139z3 u140z3 u141z3 u142z3 u143z3 u144z3 u145z3 u146z3 u147z3 u148z3 u149z3 u150z3 u151z3 u152z3 u153z3 u154z3 u155z3 u156z3 u157z3 u158z3 u159z3 u160z3 u161z3 u162z3 u163z3 u164z3 u165z3 u166z3 u167z3 u168z3 u169z3 u170z3 u171z3 u172z3 u173z3 u174z3 u175z3 u176z3 u177z3 u178z3 u179z3 u180z3 u181z3 u182z3 u183z3 u184z3 u185z3 u186z3 u187z3 u188z3 u189z3 u190 u191 u192 u193 u194 u195 u196 u197 u198 u199 u200 u201 u202 u203 u204 u205 s o2 A2 HI V HG w6z1 ic it is_ vd gi oi ci vlz2 vh vn Kz3 gh W7 wrz2 u101 u102 u103 u104 u105 u106 p Hz1 hge Q'z3 Kz4 az3 hz2 Kz5 az4 wrz3 u4z3 u18 u19 u20 u107 u108 u109 u110 u111 u112 u113 u114 u115 u116 u117 u118 u119 u120 u121 u122 u123z4 u124z4 u125z4 u126z4 u127z4 u128z4 u129z4 u130z4 u131z4 u132z4 u133z4 u134z4 u135z4 u136z4 u137z4 u138z4 u139z4 u140z4 u141z4 u142z4 u143z4 u144z4 u145z4 u146z4 u147z4 u148z4 u149z4 u150z4 u151z4 u152z4 u153z4 u154z4 u155z4 u156z4 u157z4 u158z4 u159z4 u160z4 u161z4 u162z4 u163z4 u164z4 u165z4 u166z4 u167z4 u168z4 u169z4 u170z4 u171z4 u172z4 u173z4 u174z4 u175z4 u176z4 u177z4 u178z4 u179z4 u180z4 u181z4 u182z4 u183z4 u184z4 u185z4 u186z4 u187z4 u188z4 u189z4 u Hz2 hu3 hu huI hu0 c2 vl vo f hw8 hw5 hwa hso m mu hold hmm hm8 HM HEF Q'z4 Kz6 az5 w4 pw cw w5 p5 c5 rightz1 w6 p6 c6 hHeldz1 wr u4 u123 u124 u125 u126 u127 u128 u129 u130 u131 u132 u133 u134 u135 u136 u137 u138 u139 u140 u141 u142 u143 u144 u145 u146 u147 u148 u149 u150 u151 u152 u153 u154 u155 u156 u157 u158 u159 u160 u161 u162 u163 u164 u165 u166 u167 u168 u169 u170 u171 u172 u173 u174 u175 u176 u177 u178 u179 u180 u181 u182 u183 u184 u185 u186 u187 u188 u189 j H hjm HGJ L5 hj hjI
                          exact h3p.down
                        · obtain rfl : j = m := by omega
                          have HG2 : Hid (GH S (ghK (eff s) (u + 1) 0) H) := Lib.hid (gh_thread (by rw [HEF.out]; exact HGJ.out))
                          have L6 : Hid (Lo w1 lo hi b rb q6 A2 A (([bx gp TP #[.pointer (some ⟨b, 0, none⟩), .pointer (some ⟨rb, 0, none⟩)], bx ga TA3 (A3 fun u => ptrN s g u)] ++ Tn o2 3) ++ [rd .u64 (.slice (some ⟨gi, oi, none⟩) 6 ci) V, bx gh TH6 (IH H)]) wr) := Lib.hid (Lo.dropR (rs := [rd .u64 (.slice (some ⟨gi, oi, none⟩) 6 ci) V, bx gh TH6 (IH H)]) (rs2 := [rd .i64 (.slice p5 mu c5) (S u), rd .u64 (.slice p6 j c6) (List.replicate j 0)]) L5.out)
                          clear L5 HGJ hj hjm
                          go_wp2_with fail
                          go_roundw
                          case rel => exact ⟨u + 1, H, by omega, by go_num, HG2, L6⟩
                          case measure => simp [intOf]; omega
                  · have hge3 : (3 : Int) ≤ u := by omega
                    have HGH3 : Hid (GH S (ghK (eff s) 3 0) H) := Lib.hid (by have := HGH.out; rw [show u = 3 by omega] at this; exact this)
                    clear hu hu3 HGH
                    obtain ⟨W9, hW9⟩ : ∃ W9, wr = W9 := ⟨_, rfl⟩
                    rw [hW9] at L3
                    first | rw [hW9] | skip
                    clear hW9
                    go_wp2_with fail
                    go_loopw [21] (fun iv wr => ∃ p : Nat, p ≤ 6 ∧ iv = .int .i64 p ∧ wr = W9) (fun iv _ => 6 - (intOf iv).toNat)
                    case atStart => exact ⟨0, by omega, rfl, rfl⟩
                    case round =>
                      obtain ⟨p, hp6, rfl, rfl⟩ := hrel
                      by_cases hp : p < 6
                      · have hpI : (p : Int) < 6 := by omega
                        have hp0 : (0 : Int) ≤ p := by omega
                        have ch : wr.cell? ⟨gh, p, none⟩ = some (.int .i64 (H.getD p 0)) := L3.out.cR 1 p rfl (ih_at (by rw [HGH3.out.len]; exact hp))
                        have co : wr.cell? ⟨gi, oi + p, none⟩ = some (.int .u64 (V.getD p 0)) := L3.out.rR 0 rfl p (by rw [List.getD_eq_getElem?_getD, List.getElem?_eq_getElem (by rw [HG.out.len]; exact hp)]; rfl)
                        obtain ⟨x, hx⟩ : ∃ x, H.getD p 0 = x := ⟨_, rfl⟩
                        rw [hx] at ch
                        have hgx := gh_end HG.out HGH3.out p hp
                        rw [hx] at hgx
                        rcases hgx with h0 | ⟨h0, hv⟩
                        · have hd : decide (x < 0) = false := decide_eq_false (by omega)
                          have hge : ¬ x < 0 := by omega
                          clear hx h0
                          go_wp2_with fail
                          go_roundw
                          case rel => exact ⟨p + 1, by omega, by go_num, by trivial⟩
                          case measure => simp [intOf]; omega
                        · rw [hv] at co
                          have hd : decide (x < 0) = true := decide_eq_true h0
                          have hho := r_holder 0 (by decide) (by decide)
                          rw [show (0 : Int) % 64 - 1 = -1 from rfl] at hho
                          clear hx hv
                          go_wp2_with (go_at_call 54; (with_reducible refine (hho _).mono ?_); rintro e w9 ⟨rfl, rfl⟩)
                          go_roundw
                          case rel => exact ⟨p + 1, by omega, by go_num, by trivial⟩
                          case measure => simp [intOf]; omega
                      · obtain rfl : p = 6 := by omega
                        have L9 : Hid (Lo w1 lo hi b rb q6 A2 A ([bx gp TP #[.pointer (some ⟨b, 0, none⟩), .pointer (some ⟨rb, 0, none⟩)], bx ga TA3 (A3 fun u => ptrN s g u)] ++ Tn o2 3) wr) := Lib.hid (Lo.dropR (X := [bx gp TP #[.pointer (some ⟨b, 0, none⟩), .pointer (some ⟨rb, 0, none⟩)], bx ga TA3 (A3 fun u => ptrN s g u)]) (rs := Tn o2 3) (rs2 := [rd .u64 (.slice (some ⟨gi, oi, none⟩) 6 ci) V, bx gh TH6 (IH H)]) (by have := L3.out; rw [List.append_assoc] at this; exact this))
                        clear hp hp6 L3 HGH3
                        go_wp2_with fail
                        go_roundw
                        case rel => exact ⟨i + 1, g, s, o2, A2, by omega, by go_num, HI, L9⟩
                        case measure => simp [intOf]; omega
      · obtain rfl : i = n1 := by omega
        clear hlt hin
        go_wp2_with (go_at_call 41; (with_reducible refine (l_awake _).mono ?_); rintro e wz ⟨rfl, hbz⟩)
        have HF := Lib.hid (below_trans2 HB1.out (below_trans2 L0.out.old hbz))
        clear hbz
        go_ret
        exact ⟨rfl, .of_below HF.out⟩⟩
theorem piece_1 : Pc.1.1 := by
  intro w A0 n0 c0 n1 c1 z1 W HW S HS HSW hn80 Q'z1 hz1 w1 w2 A lo hi b rb HB1 gp W1 L1 Kz1 az1 ga W2 L2 wr u4 u9 u10 u11 u12 u13 u14 u15 u16 u17 u18 u19 u20 u21 u33 u34 u35 u36 u37 u38 u39 u40 u41 u42 u43 u44 u45 u46 u47 u48 u49 u50 u51 u52 u53 u54 u55 u56 u57 u58 u59 u60 u61 u62 u63 u64 u65 u66 u67 u68 u69 u70 u71 u72 u73 u74 u75 u76 u77 u78 u79 u80 u81 u82 u83 u84 u85 u86 u87 u88 u89 u90 u91 u92 u93 u94 u95 u96 u97 u98 u99 u100 u101 u102 u103 u104 u105 u106 u107 u108 u109 u110 u111 u112 u113 u114 u115 u116 u117 u118 u119 u120 u121 u122 u123 u124 u125 u126 u127 u128 u129 u130 u131 u132 u133 u134 u135 u136 u137 u138 u139 u140 u141 u142 u143 u144 u145 u146 u147 u148 u149 u150 u151 u152 u153 u154 u155 u156 u157 u158 u159 u160 u161 u162 u163 u164 u165 u166 u167 u168 u169 u170 u171 u172 u173 u174 u175 u176 u177 u178 u179 u180 u181 u182 u183 u184 u185 u186 u187 u188 u189 u190 u191 u192 u193 u194 u195 u196 u197 u198 u199 u200 u201 u202 u203 u204 u205 i g s o2 A2 hin HI L0 hlt hltI bp po x HZ leftz1 t ht htI ht0 Q'z2 Kz2 az2 Kz3 az3 pv c2 HPV z heq hgu HZN Jz1 K'z1 az4 az5
  cases z with
  | false =>
    go_wp2_with fail
    all_goals go_meet
    all_goals exact ⟨g, s, o2, HZN, HI, L0⟩
  | true =>
    have hB := below_trans2 HB1.out L0.out.old
    obtain ⟨hw8, hw5, hwa⟩ := HW.out t ht
    have hwa := hwa wr hB
    have hnl : ∀ w2 p c, Below wr.heap.size wr w2 → RdR .i64 w2 (.slice p (W t).length c) (W t) → Calls _ _ _ _ _ := fun w2 p c hb hr => x_new (L0.out.below hb) t (.slice p (W t).length c) (W t) hr (by omega)
    have hpost : ∀ w3 g1 v1, Lo w1 lo hi b rb q6 A2 A (([bx gp TP #[.pointer (some ⟨b, 0, none⟩), .pointer (some ⟨rb, 0, none⟩)], bx ga TA3 (A3 fun u => ptrN s g u)] ++ Tn o2 3) ++ [lkM g1 t v1 (.slice none 0 0) ⟨srt (W t), [], false, 0⟩]) w3 → w3.cell? ⟨ga, t, none⟩ = some (ptrN s g t) ∧ w3.frozen? ⟨ga, t, none⟩ = false ∧ Lo w1 lo hi b rb q6 A2 A ([bx gp TP #[.pointer (some ⟨b, 0, none⟩), .pointer (some ⟨rb, 0, none⟩)], bx ga TA3 (A3 fun u => ptrN ⟨upf s.k t 0, upf s.r t false, upf s.n t false, s.V⟩ (upf g t g1) u)] ++ Tn (upf o2 t (lkM g1 t v1 (.slice none 0 0) (lst S t 0 false 0))) 3) ((w3.setCell ⟨ga, t, none⟩ (ptrV g1))) := fun w3 g1 v1 h => by
      rw [← HSW.out t] at h
      have h2 := ex_put ht (HI.out.no t ht HZN.out) h
      refine ⟨h2.c 1 t rfl (a3_at ht), h2.z 1 t rfl, ?_⟩
      have h3 := h2.put 1 t (ptrV g1) rfl
      rw [a3_ptr (s' := ⟨upf s.k t 0, upf s.r t false, upf s.n t false, s.V⟩) (g' := upf g t g1) ht (by show (if upf s.n t false t = true then _ else _) = _; rw [upf_at, upf_at]; rfl) (fun u hu => by show (if upf s.n t false u = true then _ else _) = _; rw [upf_ne hu, upf_ne hu]; rfl)] at h3
      exact h3
    have HNN : Hid (upf s.n t false t = false) := Lib.hid (upf_at _ _ _)
    rw [HPV.out] at hpost
    clear hB
    go_wp2_with (first
      | (go_at_call 48; (with_reducible refine hwa.mono ?_); rintro e w3 ⟨pw, cw, rfl, hrw, hbw⟩; have hnl := hnl _ _ _ hbw hrw)
      | (go_at_call 47; (with_reducible refine hnl.mono ?_); rintro e w4 ⟨g1, v1, rfl, hL⟩; obtain ⟨hc1, hc2, hL2⟩ := hpost _ _ _ hL))
    all_goals go_meet
    all_goals exact ⟨_, _, _, HNN, Lib.hid (ex_new HI.out ht HZN.out), Lib.hid hL2⟩
theorem piece_2 : Pc.1.2.1 := by
  intro w A0 n0 c0 n1 c1 z1 W HW S HS HSW hn80 Q'z1 hz1 w1 w2 A lo hi b rb HB1 gp W1 L1 Kz1 az1 ga W2 L2 wr u4 u9 u10 u11 u12 u13 u14 u15 u16 u17 u18 u19 u20 u21 u33z1 u34z1 u35z1 u36z1 u37z1 u38z1 u39z1 u40z1 u41z1 u42z1 u43z1 u44z1 u45z1 u46z1 u47z1 u48z1 u49z1 u50z1 u51z1 u52z1 u53z1 u54z1 u55z1 u56z1 u57z1 u58z1 u59z1 u60z1 u61z1 u62z1 u63z1 u64z1 u65z1 u66z1 u67z1 u68z1 u69z1 u70z1 u71z1 u72z1 u73z1 u74z1 u75z1 u76z1 u77z1 u78z1 u79z1 u80z1 u81z1 u82z1 u83z1 u84z1 u85z1 u86z1 u87z1 u88z1 u89z1 u90z1 u91z1 u92z1 u93z1 u94z1 u95z1 u96z1 u97z1 u98z1 u99z1 u100z1 u101z1 u102z1 u103z1 u104z1 u105z1 u106z1 u107z1 u108z1 u109z1 u110z1 u111z1 u112z1 u113z1 u114z1 u115z1 u116z1 u117z1 u118z1 u119z1 u120z1 u121z1 u122z1 u123z1 u124z1 u125z1 u126z1 u127z1 u128z1 u129z1 u130z1 u131z1 u132z1 u133z1 u134z1 u135z1 u136z1 u137z1 u138z1 u139z1 u140z1 u141z1 u142z1 u143z1 u144z1 u145z1 u146z1 u147z1 u148z1 u149z1 u150z1 u151z1 u152z1 u153z1 u154z1 u155z1 u156z1 u157z1 u158z1 u159z1 u160z1 u161z1 u162z1 u163z1 u164z1 u165z1 u166z1 u167z1 u168z1 u169z1 u170z1 u171z1 u172z1 u173z1 u174z1 u175z1 u176z1 u177z1 u178z1 u179z1 u180z1 u181z1 u182z1 u183z1 u184z1 u185z1 u186z1 u187z1 u188z1 u189z1 u190z1 u191z1 u192z1 u193z1 u194z1 u195z1 u196z1 u197z1 u198z1 u199z1 u200z1 u201z1 u202z1 u203z1 u204z1 u205z1 i gz1 sz1 o2z1 A2 hin hlt hltI bp po x HZ leftz1 t ht htI ht0 Q'z2 Kz2 az2 pv zz1 wc u33 u34 u35 u36 u37 u38 u39 u40 u41 u42 u43 u44 u45 u46 u47 u48 u49 u50 u51 u52 u53 u54 u55 u56 u57 u58 u59 u60 u61 u62 u63 u64 u65 u66 u67 u68 u69 u70 u71 u72 u73 u74 u75 u76 u77 u78 u79 u80 u81 u82 u83 u84 u85 u86 u87 u88 u89 u90 u91 u92 u93 u94 u95 u96 u97 u98 u99 u100 u101 u102 u103 u104 u105 u106 u107 u108 u109 u110 u111 u112 u113 u114 u115 u116 u117 u118 u119 u120 u121 u122 u123 u124 u125 u126 u127 u128 u129 u130 u131 u132 u133 u134 u135 u136 u137 u138 u139 u140 u141 u142 u143 u144 u145 u146 u147 u148 u149 u150 u151 u152 u153 u154 u155 u156 u157 u158 u159 u160 u161 u162 u163 u164 u165 u166 u167 u168 u169 u170 u171 u172 u173 u174 u175 u176 u177 u178 u179 u180 u181 u182 u183 u184 u185 u186 u187 u188 u189 u190 u191 u192 u193 u194 u195 u196 u197 u198 u199 u200 u201 u202 u203 u204 u205 g s o2 HN HI L0 hptr c2 c3 vl vo f hf hot hat hle heff z HZN Kz3 az3 Jz1 K'z1 az4 az5
  cases z with
  | false =>
    have hst := z_step L0.out.drew ht hot HS.out HI.out.gi heff hle hf
    have hkk : ∀ (W : World) (A6 : Int → List Int) (o6 : Nat → Ob), Lo w1 lo hi b rb q6 A6 A ([bx gp TP #[.pointer (some ⟨b, 0, none⟩), .pointer (some ⟨rb, 0, none⟩)], bx ga TA3 (A3 fun u => ptrN s g u)] ++ Tn o6 3) W → (fun W : World => W.cell? ⟨ga, t, none⟩ = some (ptrV (g t)) ∧ W.cell? ⟨gp, 0, none⟩ = some (.pointer (some ⟨b, 0, none⟩))) W := fun W A6 o6 h => ⟨(h.c 1 t rfl (a3_at ht)).trans (by rw [hptr]), h.c 0 0 rfl rfl⟩
    have hs0 : (fun W : World => W.cell? ⟨ga, t, none⟩ = some (ptrV (g t)) ∧ W.cell? ⟨gp, 0, none⟩ = some (.pointer (some ⟨b, 0, none⟩))) wc.drew := hkk _ _ _ L0.out.drew
    clear heff hat hot hle hptr
    go_upto_region 25 with (fail)
    go_region_held3 (fun W : World => W.cell? ⟨ga, t, none⟩ = some (ptrV (g t)) ∧ W.cell? ⟨gp, 0, none⟩ = some (.pointer (some ⟨b, 0, none⟩))) (first | (with_reducible exact hs0) | (with_reducible assumption)) (first
      | (go_at_call 53; (with_reducible refine hst.mono ?_); rintro e w6 ⟨v6, A6, vl', vo', k', r', f', rfl, hL, hA3, hf', hk', hI', hcase⟩; have hk1 := hkk _ _ _ hL))
    all_goals go_wp2_with fail
    all_goals go_meet
    all_goals exact ⟨⟨upf s.k t k', upf s.r t r', s.n, A6 2⟩, _, A6, Lib.hid (ex_step HI.out ht HN.out (vl' := vl') (vo' := vo') hA3 hf' hk' hI'), Lib.hid hL⟩
  | true =>
    have hd : s.k t = (S t).length := of_decide_eq_true HZN.out
    have hB := below_trans2 HB1.out L0.out.old
    obtain ⟨hw8, hw5, hwa⟩ := HW.out t ht
    have hwa : Calls _ _ _ wc.drew _ := hwa wc.drew (below_drewN hB 1)
    have hso := fun (W3 : World) (p : Option Addr) (c : Nat) (hr : RdR .i64 W3 (.slice p (W t).length c) (W t)) => k_sorted W3 (.slice p (W t).length c) (W t) hr.slice (by omega)
    obtain ⟨m, hm⟩ : ∃ m, (S t).length = m := ⟨_, rfl⟩
    have hold := fun (W : World) (hb : Below wc.drew.heap.size wc.drew W) => z_old (L0.out.drew.below hb) hat (lst_ok HS.out ht hle hf) (hd.trans hm)
    have hkm : s.k t = m := hd.trans hm
    have hm8 : m ≤ 8 := by rw [← hm]; exact HS.out.few t ht
    have hrn : ∀ (W5 : World) (p1 : Option Addr) (c1 : Nat) (p2 : Option Addr) (c2 : Nat), Below wc.drew.heap.size wc.drew W5 → RdR .i64 W5 (.slice p1 m c1) (S t) → RdR .u64 W5 (.slice p2 m c2) (List.replicate m 0) → Calls _ _ _ _ _ := fun W5 p1 c1 p2 c2 hb h1 h2 => y_new (L0.out.drew.below hb) (.slice p1 m c1) (.slice p2 m c2) (S t) (List.replicate m 0) h1 h2 (by simp [hm]) (by omega)
    have HK := Lib.hid hkm
    have HM := Lib.hid hm
    have hne : ∀ g9 : Nat, ∀ w9 : World, (binOp BinOp.eql 85 (.pointer (some ⟨g9, 0, none⟩)) (.pointer none)).run Try.prog w9 = .ok (.bool false) w9 := fun _ _ => by kernel_rfl
    have hkk : ∀ (W : World), Below wc.drew.heap.size wc.drew W → (fun W : World => W.cell? ⟨ga, t, none⟩ = some (ptrV (g t))) W := fun W hb => ((L0.out.drew.below hb).c 1 t rfl (a3_at ht)).trans (by rw [hptr])
    have hs0 : (fun W : World => W.cell? ⟨ga, t, none⟩ = some (ptrV (g t))) wc.drew := hkk _ (Below.refl _ _)
    clear hB hd hle hf hot heff hkm hm c2
    go_upto_region 16 with (fail)
    go_region_held3 (fun W : World => W.cell? ⟨ga, t, none⟩ = some (ptrV (g t))) (first | (with_reducible exact hs0) | (with_reducible assumption)) (first
      | (go_at_call 48; (with_reducible refine hwa.mono ?_); rintro e w4 ⟨pw, cw, rfl, hrw, hbw⟩; have hso := hso _ _ _ hrw; have hk1 := hkk _ hbw)
      | (go_at_call 44; (with_reducible refine hso.mono ?_); rintro e w5 ⟨v5, rfl, ho5, hb5⟩; rw [← HSW.out t, HM.out] at ho5; obtain ⟨p5, c5, rfl, _⟩ := own_slice ho5; have hb15 := below_trans2 hbw hb5; have hold := hold _ hb15; have hk2 := hkk _ hb15)
      | (go_at_call 50; (with_reducible refine hold.mono ?_); rintro e w6 ⟨p6, c6, rfl, ho6, hb6⟩; have hb16 := below_trans2 hb15 hb6; have hk3 := hkk _ hb16; have hrn := hrn w6 p5 c5 p6 c6 hb16 (rdr_below (rdr_own (by rw [HM.out]; exact ho5)) hb6) ho6))
    go_upto_region 20 with (go_at_call 51; (with_reducible refine hrn.mono ?_); rintro e w7 ⟨gr, q1, d1, q2, d2, rfl, hL7⟩)
    have HL7 := Lib.hid hL7
    clear hL7 hwa hso hold hrn hrw hbw ho5 hb5 hb15 ho6 hb6 hb16 c3 hkk hs0 hk1 hk2 hk3 hat L0 hne
    go_wp2_with fail
    go_loopw [13] (fun iv wr => ∃ (j : Nat) (A5 : Int → List Int), j ≤ m ∧ iv = .int .i64 j ∧ Hid (A5 2 = relK ((S t).take j) (A2 2) ∧ ∀ k, k ≠ 2 → A5 k = A2 k) ∧ Hid (Lo w1 lo hi b rb q6 A5 A (([bx gp TP #[.pointer (some ⟨b, 0, none⟩), .pointer (some ⟨rb, 0, none⟩)], bx ga TA3 (A3 fun u => ptrN s g u)] ++ Tn o2 3) ++ [reM gr (.slice q1 (S t).length d1) (.slice q2 (List.replicate m (0 : Int)).length d2) (S t) (List.replicate m 0) j]) wr)) (fun iv _ => m - (intOf iv).toNat)
    case atStart => exact ⟨0, A2, by omega, rfl, Lib.hid ⟨rfl, fun _ _ => rfl⟩, HL7⟩
    case round =>
      clear HL7
      obtain ⟨j, A5, hjm, rfl, HA5, L7⟩ := hrel
      by_cases hj : j < m
      · have hjI : (j : Int) < m := by omega
        obtain ⟨p, hp6, hp⟩ := nat_at HS.out ht (by rw [HM.out]; exact hj)
        have hv5 : VOk (A5 2) := by rw [HA5.out.1]; exact relK_vok (gi_vok HI.out.gi) fun x hx => HS.out.inS t ht x (List.mem_of_mem_take hx)
        have hst := y_step (i := 5) L7.out rfl hv5 (by rw [List.length_replicate]; exact HM.out) (by rw [HM.out]; omega) hp hp6 (v := 0) (by rw [List.getElem?_replicate, if_pos hj]) rfl
        have c3 : wr.cell? ⟨gp, 0, none⟩ = some (.pointer (some ⟨b, 0, none⟩)) := L7.out.c 0 0 rfl rfl
        have HA6 : Hid (upd A5 2 p 0 2 = relK ((S t).take (j + 1)) (A2 2) ∧ ∀ k, k ≠ 2 → upd A5 2 p 0 k = A2 k) := Lib.hid ⟨by rw [upd2, relK_take hp, HA5.out.1]; rfl, fun k hk => (upd_off hk).trans (HA5.out.2 k hk)⟩
        clear hv5 hp
        go_wp2_with (go_at_call 52; (with_reducible refine hst.mono ?_); rintro e w8 ⟨rfl, hL⟩; have L8 := Lib.hid hL; clear hL)
        go_roundw
        case rel => exact ⟨j + 1, _, by omega, by go_num, HA6, L8⟩
        case measure => simp [intOf]; omega
      · obtain rfl : j = m := by omega
        have hA2 : A5 2 = relK (S t) (A2 2) := by rw [HA5.out.1, ← HM.out, List.take_length]
        have hI5 := ex_rel HI.out HS.out ht HN.out (HK.out.trans HM.out.symm) HA5.out.2 hA2
        have c4 : wr.cell? ⟨ga, t, none⟩ = some (ptrV (g t)) := (L7.out.c 1 t rfl (a3_at ht)).trans (by rw [hptr])
        have c5 : wr.frozen? ⟨ga, t, none⟩ = false := L7.out.z 1 t rfl
        have L8 : Hid (Lo w1 lo hi b rb q6 A5 A ([bx gp TP #[.pointer (some ⟨b, 0, none⟩), .pointer (some ⟨rb, 0, none⟩)], bx ga TA3 (A3 fun u => ptrN ⟨s.k, s.r, upf s.n t true, A5 2⟩ g u)] ++ Tn (upf o2 t nob) 3) ((wr.setCell ⟨ga, t, none⟩ (.pointer none)))) := Lib.hid (by
          have h := L7.out.drop
          have h1 := h.see (2 + t) (lo_at (X := [bx gp TP #[.pointer (some ⟨b, 0, none⟩), .pointer (some ⟨rb, 0, none⟩)], bx ga TA3 (A3 fun u => ptrN s g u)]) ht) (o' := nob) trivial fun g hg => absurd hg List.not_mem_nil
          have h2 := h1
          rw [show 2 + t = [bx gp TP #[.pointer (some ⟨b, 0, none⟩), .pointer (some ⟨rb, 0, none⟩)], bx ga TA3 (A3 fun u => ptrN s g u)].length + t from rfl, lo_set3 ht] at h2
          have h3 := h2.put 1 t (.pointer none) rfl
          rw [a3_ptr (s' := ⟨s.k, s.r, upf s.n t true, A5 2⟩) (g' := g) ht (by show (if upf s.n t true t = true then _ else _) = _; rw [upf_at]; rfl) (fun u hu => by show (if upf s.n t true u = true then _ else _) = _; rw [upf_ne hu]; rfl)] at h3
          exact h3)
        have HI6 := Lib.hid hI5
        clear hA2 hI5 L7 hj hjm
        go_wp2_with fail
        all_goals go_meet
        all_goals exact ⟨⟨s.k, s.r, upf s.n t true, A5 2⟩, _, A5, HI6, L8⟩
theorem piece_3 : Pc.1.2.2 := by
  intro w A0 n0 c0 n1 c1 z1 W HW S HS HSW hn80 Q'z1 hz1 w1 w2 A lo hi b rb HB1 gp W1 L1 Kz1 az1 ga W2 L2 wrz1 u4z1 u9 u10z1 u11z1 u12z1 u13z1 u14 u15 u16 u17 u18z1 u19z1 u20z1 u21 u33z1 u34z1 u35z1 u36z1 u37z1 u38z1 u39z1 u40z1 u41z1 u42z1 u43z1 u44z1 u45z1 u46z1 u47z1 u48z1 u49z1 u50z1 u51z1 u52z1 u53z1 u54z1 u55z1 u56z1 u57z1 u58z1 u59z1 u60z1 u61z1 u62z1 u63z1 u64z1 u65z1 u66z1 u67z1 u68z1 u69z1 u70z1 u71z1 u72z1 u73z1 u74z1 u75z1 u76z1 u77z1 u78z1 u79z1 u80z1 u81z1 u82z1 u83z1 u84z1 u85z1 u86z1 u87z1 u88z1 u89z1 u90z1 u91z1 u92z1 u93z1 u94z1 u95z1 u96z1 u97z1 u98z1 u99z1 u100z1 u101z1 u102z1 u103z1 u104z1 u105z1 u106z1 u107z1 u108z1 u109z1 u110z1 u111z1 u112z1 u113z1 u114z1 u115z1 u116z1 u117z1 u118z1 u119z1 u120z1 u121z1 u122z1 u123z1 u124z1 u125z1 u126z1 u127z1 u128z1 u129z1 u130z1 u131z1 u132z1 u133z1 u134z1 u135z1 u136z1 u137z1 u138z1 u139z1 u140z1 u141z1 u142z1 u143z1 u144z1 u145z1 u146z1 u147z1 u148z1 u149z1 u150z1 u151z1 u152z1 u153z1 u154z1 u155z1 u156z1 u157z1 u158z1 u159z1 u160z1 u161z1 u162z1 u163z1 u164z1 u165z1 u166z1 u167z1 u168z1 u169z1 u170z1 u171z1 u172z1 u173z1 u174z1 u175z1 u176z1 u177z1 u178z1 u179z1 u180z1 u181z1 u182z1 u183z1 u184z1 u185z1 u186z1 u187z1 u188z1 u189z1 u190z1 u191z1 u192z1 u193z1 u194z1 u195z1 u196z1 u197z1 u198z1 u199z1 u200z1 u201z1 u202z1 u203z1 u204z1 u205z1 i gz1 sz1 o2z1 A2z1 hin hlt hltI bp po x HZ leftz1 t ht htI ht0 Q'z2 Kz2 az2 pv zz1 wcz1 u33z2 u34z2 u35z2 u36z2 u37z2 u38z2 u39z2 u40z2 u41z2 u42z2 u43z2 u44z2 u45z2 u46z2 u47z2 u48z2 u49z2 u50z2 u51z2 u52z2 u53z2 u54z2 u55z2 u56z2 u57z2 u58z2 u59z2 u60z2 u61z2 u62z2 u63z2 u64z2 u65z2 u66z2 u67z2 u68z2 u69z2 u70z2 u71z2 u72z2 u73z2 u74z2 u75z2 u76z2 u77z2 u78z2 u79z2 u80z2 u81z2 u82z2 u83z2 u84z2 u85z2 u86z2 u87z2 u88z2 u89z2 u90z2 u91z2 u92z2 u93z2 u94z2 u95z2 u96z2 u97z2 u98z2 u99z2 u100z2 u101z2 u102z2 u103z2 u104z2 u105z2 u106z2 u107z2 u108z2 u109z2 u110z2 u111z2 u112z2 u113z2 u114z2 u115z2 u116z2 u117z2 u118z2 u119z2 u120z2 u121z2 u122z2 u123z2 u124z2 u125z2 u126z2 u127z2 u128z2 u129z2 u130z2 u131z2 u132z2 u133z2 u134z2 u135z2 u136z2 u137z2 u138z2 u139z2 u140z2 u141z2 u142z2 u143z2 u144z2 u145z2 u146z2 u147z2 u148z2 u149z2 u150z2 u151z2 u152z2 u153z2 u154z2 u155z2 u156z2 u157z2 u158z2 u159z2 u160z2 u161z2 u162z2 u163z2 u164z2 u165z2 u166z2 u167z2 u168z2 u169z2 u170z2 u171z2 u172z2 u173z2 u174z2 u175z2 u176z2 u177z2 u178z2 u179z2 u180z2 u181z2 u182z2 u183z2 u184z2 u185z2 u186z2 u187z2 u188z2 u189z2 u190z2 u191z2 u192z2 u193z2 u194z2 u195z2 u196z2 u197z2 u198z2 u199z2 u200z2 u201z2 u202z2 u203z2 u204z2 u205z2 g sz2 o2z2 vlz1 voz1 fz1 z wc u4z2 u10 u11 u12 u13 u33 u34 u35 u36 u37 u38 u39 u40 u41 u42 u43 u44 u45 u46 u47 u48 u49 u50 u51 u52 u53 u54 u55 u56 u57 u58 u59 u60 u61 u62 u63 u64 u65 u66 u67 u68 u69 u70 u71 u72 u73 u74 u75 u76 u77 u78 u79 u80 u81 u82 u83 u84 u85 u86 u87 u88 u89 u90 u91 u92 u93 u94 u95 u96 u97 u98 u99 u100 u101z3 u102z3 u103z3 u104z3 u105z3 u106z3 u107z3 u108z3 u109z3 u110z3 u111z3 u112z3 u113z3 u114z3 u115z3 u116z3 u117z3 u118z3 u119z3 u120z3 u121z3 u122z3 u123z3 u124z3 u125z3 u126z3 u127z3 u128z3 u129z3 u130z3 u131z3 u132z3 u133z3 u134z3 u135z3 u136z3 u137z3 u138z3 u139z3 u140z3 u141z3 u142z3 u143z3 u144z3 u145z3 u146z3 u147z3 u148z3 u149z3 u150z3 u151z3 u152z3 u153z3 u154z3 u155z3 u156z3 u157z3 u158z3 u159z3 u160z3 u161z3 u162z3 u163z3 u164z3 u165z3 u166z3 u167z3 u168z3 u169z3 u170z3 u171z3 u172z3 u173z3 u174z3 u175z3 u176z3 u177z3 u178z3 u179z3 u180z3 u181z3 u182z3 u183z3 u184z3 u185z3 u186z3 u187z3 u188z3 u189z3 u190 u191 u192 u193 u194 u195 u196 u197 u198 u199 u200 u201 u202 u203 u204 u205 s o2 A2 HI V HG w6z1 ic it is_ vd gi oi ci vlz2 vh vn Kz3 gh W7 wrz2 u101 u102 u103 u104 u105 u106 p Hz1 hge Q'z3 Kz4 az3 hz2 Kz5 az4 wrz3 u4z3 u18 u19 u20 u107 u108 u109 u110 u111 u112 u113 u114 u115 u116 u117 u118 u119 u120 u121 u122 u123z4 u124z4 u125z4 u126z4 u127z4 u128z4 u129z4 u130z4 u131z4 u132z4 u133z4 u134z4 u135z4 u136z4 u137z4 u138z4 u139z4 u140z4 u141z4 u142z4 u143z4 u144z4 u145z4 u146z4 u147z4 u148z4 u149z4 u150z4 u151z4 u152z4 u153z4 u154z4 u155z4 u156z4 u157z4 u158z4 u159z4 u160z4 u161z4 u162z4 u163z4 u164z4 u165z4 u166z4 u167z4 u168z4 u169z4 u170z4 u171z4 u172z4 u173z4 u174z4 u175z4 u176z4 u177z4 u178z4 u179z4 u180z4 u181z4 u182z4 u183z4 u184z4 u185z4 u186z4 u187z4 u188z4 u189z4 u Hz2 hu3 hu huI hu0 c2 vl vo f hw8 hw5 hwa hso m mu hold hmm hm8 HM HEF Q'z4 Kz6 az5 w4 pw cw w5 p5 c5 rightz1 w6 p6 c6 hHeldz1 wr u4 u123 u124 u125 u126 u127 u128 u129 u130 u131 u132 u133 u134 u135 u136 u137 u138 u139 u140 u141 u142 u143 u144 u145 u146 u147 u148 u149 u150 u151 u152 u153 u154 u155 u156 u157 u158 u159 u160 u161 u162 u163 u164 u165 u166 u167 u168 u169 u170 u171 u172 u173 u174 u175 u176 u177 u178 u179 u180 u181 u182 u183 u184 u185 u186 u187 u188 u189 j H hjm HGJ L5 hj hjI
  have hjmI : (j : Int) < mu := by omega
  have hdj : decide (mu ≤ j) = false := decide_eq_false (by omega)
  obtain ⟨p, hp6, hp⟩ := nat_at HS.out hu (j := j) (by rw [HM.out]; omega)
  obtain ⟨gA, gB, gC⟩ := gh_next HS.out HG.out hu (by rw [HEF.out]; exact hj) HGJ.out hp hp6
  have r1 : RdR .i64 wr (.slice p5 mu c5) (S u) := L5.out.isR 2 rfl
  have r2 : RdR .u64 wr (.slice p6 m c6) (List.replicate m 0) := L5.out.isR 3 rfl
  obtain ⟨g5, o5, c5b, e5, _, _, hc5⟩ := r1.cell (by rw [HM.out]; omega)
  injection e5 with e5 e5b e5c
  obtain ⟨g6, o6, c6b, e6, _, _, hc6⟩ := r2.cell (by rw [List.length_replicate]; omega)
  injection e6 with e6 e6b e6c
  clear e5b e5c e6b e6c
  subst e5 e6
  have cs := hc5 j _ hp
  have cd := hc6 j 0 (by rw [List.getElem?_replicate, if_pos hj])
  have ch : wr.cell? ⟨gh, p, none⟩ = some (.int .i64 (-1)) := (L5.out.cR 1 p rfl (ih_at (by rw [HGJ.out.len]; exact hp6))).trans (by rw [gA])
  have cz : wr.frozen? ⟨gh, p, none⟩ = false := L5.out.zR 1 p rfl
  obtain ⟨x, hx⟩ : ∃ x, (u : Int) + 1 = x := ⟨_, rfl⟩
  have co : wr.cell? ⟨gi, oi + p, none⟩ = some (.int .u64 x) := L5.out.rR 0 rfl p (by rw [List.getElem?_eq_getElem (by rw [HG.out.len]; exact hp6)]; congr 1; rw [← hx, ← gB, List.getD_eq_getElem?_getD, List.getElem?_eq_getElem (by rw [HG.out.len]; exact hp6)]; rfl)
  have hho := same_of (r_holder x (by omega) (by omega))
  rw [show x % 64 - 1 = (u : Int) by omega] at hho
  have hve := same_of (r_version x (by omega) (by omega))
  rw [show x / 64 = 0 by omega] at hve
  have hv0 := same_of (r_version 0 (by decide) (by decide))
  rw [show (0 : Int) / 64 = 0 from rfl] at hv0
  have hpI : (p : Int) < 6 := by omega
  have hp0 : (0 : Int) ≤ p := by omega
  have hd1 : decide ((p : Int) < 0) = false := decide_eq_false (by omega)
  have hd2 : decide ((6 : Int) ≤ p) = false := decide_eq_false (by omega)
  have hd2b : decide (6 ≤ p) = false := decide_eq_false (by omega)
  have hne : ((u : Int) != (u : Int)) = false := by simp
  have HGC := Lib.hid gC
  clear gA gB gC r1 r2 hc5 hc6 hp hx HGJ
  go_upto_region 42 with (fail)
  go_quiet (first | (go_at_call 54; exact Calls.quiet_of_same (hho _)) | (go_at_call 55; exact Calls.quiet_of_same (hve _)) | (go_at_call 55; exact Calls.quiet_of_same (hv0 _)))
  have cs2 : (wr.drewN nq).cell? ⟨g5, o5 + j, none⟩ = some (.int .i64 p) := cs
  have ch2 : (wr.drewN nq).cell? ⟨gh, p, none⟩ = some (.int .i64 (-1)) := ch
  have cz2 : (wr.drewN nq).frozen? ⟨gh, p, none⟩ = false := cz
  have L6 : Hid (Lo w1 lo hi b rb q6 A2 A (([bx gp TP #[.pointer (some ⟨b, 0, none⟩), .pointer (some ⟨rb, 0, none⟩)], bx ga TA3 (A3 fun u => ptrN s g u)] ++ Tn o2 3) ++ [rd .u64 (.slice (some ⟨gi, oi, none⟩) 6 ci) V, bx gh TH6 (IH (H.set p u)), rd .i64 (.slice (some ⟨g5, o5, none⟩) mu c5) (S u), rd .u64 (.slice (some ⟨g6, o6, none⟩) m c6) (List.replicate m 0)]) ((wr.drewN nq).setCell ⟨gh, p, none⟩ (.int .i64 u))) := Lib.hid ((L5.out.drewN nq).putR 1 p (.int .i64 u) rfl (ih_set _))
  clear L5 hho hve hv0 cs cd ch cz co hd1 hd2 hd2b hne hdj
  go_wp2_with fail
  go_roundw
  case rel => exact ⟨j + 1, _, by omega, by go_num, HGC, L6⟩
  case measure => simp [intOf]; omega
theorem walk (w : World) (A0 : Option Addr) (n0 c0 : Nat) (l0 : n0 ≤ c0) (m0 : c0 ≤ maxLen) (s0 : ArgL.LL w A0 n0) (A1 : Option Addr) (n1 c1 : Nat) (z1 : List Int) (l1 : n1 ≤ c1) (m1 : c1 ≤ maxLen) (s1 : Ints .i64 w A1 n1 z1) :
    Calls Try.prog 7 #[.slice A0 n0 c0, .slice A1 n1 c1] w fun e w' => e = .returned (.bool true) ∧ Kept w w' := Pc.2 ⟨piece_1⟩ ⟨piece_2⟩ ⟨piece_3⟩ w A0 n0 c0 l0 m0 s0 A1 n1 c1 z1 l1 m1 s1
/-! The row's step. -/
set_option maxRecDepth 100000 in
theorem lifted (os : Os) (started : os.Started) (H : Type) (enc : TypeId × Value → H) :
    ReturnsInHanded {} Try.checked os 7 .any (Rows.lockerExcludesSpec.pre6 enc Try.prog Try.f7 Rows.lockerExcludesRow.domain false) (Rows.lockerExcludesSpec.post enc Try.prog Try.f7 false true false false) := by
  refine returnsInHanded_of_change (C := Try.checked) own started (by kernel_rfl) Try.func7
    (ChangeSpec.witness6 (enc := enc) (C := Try.checked) false ⟨#[], #[.slice none 0 0, .slice none 0 0], []⟩ 8 (by kernel_rfl) (by kernel_rfl) (by kernel_rfl) (by kernel_rfl)) ?_
  intro W base args ds gs before hval0 hW hcnd _
  have hval : ∀ (j : Nat) t v, Try.f7.params[j]? = some t → args[j]? = some v → Value.okWide Try.prog W .any base t v := hval0
  have hW' := hW
  obtain ⟨p, q, hA0, hV, rfl, hfz, hnd⟩ := hW
  have hA : DataW.TrodAll enc Try.prog W 0 (fun _ => true) true Try.f7.params.toList args.toList ds p := hA0
  rw [Try.params7] at hA hval
  obtain ⟨v0, vs0, d0, ds0, p0, q0, hargs, rfl, rfl, h0, r0⟩ := trodAll_cons hA
  obtain ⟨v1, vs1, d1, ds1, p1, q1, rfl, rfl, rfl, h1, r1⟩ := trodAll_cons r0
  obtain ⟨rfl, rfl, rfl⟩ := trodAll_nil r1
  obtain rfl : args = #[v0, v1] := by cases args; simp_all
  obtain ⟨rfl, rfl⟩ := trodVars_none hV
  have hk : ∀ W', Kept W W' → Rows.lockerExcludesSpec.post enc Try.prog Try.f7 false true false false W #[v0, v1] (.bool true) W' := fun W' hb =>
    post_law laidOut readable rfl Try.underlying4 rfl hW' rfl hb
  clear hA0 hval0 hA hW'
  obtain ⟨A0, n0, c0, rfl, l0, m0, s0⟩ := ArgL.open_ll (hval 0 79 v0 rfl rfl) h0
  obtain ⟨A1, n1, c1, z1, rfl, l1, m1, s1⟩ := open_slice Try.underlying47 Try.underlying3 cells3 (hval 1 47 v1 rfl rfl) h1
  refine (walk W A0 n0 c0 l0 m0 s0 A1 n1 c1 z1 l1 m1 s1).mono fun e W' ⟨he, hg⟩ => ?_
  subst he
  exact ⟨_, rfl, hk W' hg⟩

theorem over : Rows.lockerExcludesRow.holds Try.pinned (OpenSpec.ofChange Rows.lockerExcludesSpec) :=
  OpenClaim.holds_of_wide 7 Try.f7 rfl rfl rfl rfl rfl rfl rfl ⟨rfl, rfl, rfl, rfl, rfl⟩ rfl rfl rfl rfl rfl (by kernel_rfl) Try.func7 (by kernel_rfl)
    (of_decide_eq_true (by kernel_rfl)) (by unfold Func.isWrapper; first | (rw [if_pos (by decide +kernel)]; kernel_rfl) | (rw [if_neg (by decide +kernel)]; exact ⟨rfl, rfl⟩))
    (fun os started H enc _ => lifted os started H enc)

/-- The statement. -/
theorem proved : Rows.LockerExcludesSaid :=
  over
#print axioms proved
end Go.Proofs.Ytphnadchdhblpaa.lockerExcludes
