/-
  Plain text on no program: locks of three threads: no two hold the same; rounds in which every thread steps come to an end.
-/
import Derived.Test.YtphnadchdhblpaaGreatLkP
namespace Go.Proofs.YtphnadchdhblpaaGreat.LkQ
open LkP
set_option linter.unusedVariables false

def upf {α : Type} (f : Nat → α) (t : Nat) (v : α) : Nat → α := fun u => if u = t then v else f u
theorem upf_at {α : Type} (f : Nat → α) (t : Nat) (v : α) : upf f t v t = v := if_pos rfl
theorem upf_ne {α : Type} {f : Nat → α} {t u : Nat} {v : α} (h : u ≠ t) : upf f t v u = f u := if_neg h
theorem upf_id {α : Type} (f : Nat → α) (t : Nat) : upf f t (f t) = f := by
  funext u
  unfold upf
  split
  · rename_i e; rw [e]
  · rfl
/-- The lists of three threads: in ascending order, numbers of six records. -/
structure SOk (S : Nat → List Int) : Prop where
  asc : ∀ u, u < 3 → Asc (S u)
  inS : ∀ u, u < 3 → ∀ x ∈ S u, 0 ≤ x ∧ x ≤ 5
  few : ∀ u, u < 3 → (S u).length ≤ 8
/-- Of six records those that thread u has, the first k u of its list, bear val u, the others d. -/
structure GJ (val : Nat → Int) (d : Int) (S : Nat → List Int) (k : Nat → Nat) (V : List Int) : Prop where
  len : V.length = 6
  has : ∀ o : Nat, o < 6 → ∀ u, u < 3 → (o : Int) ∈ (S u).take (k u) → V.getD o 0 = val u
  not : ∀ o : Nat, o < 6 → (∀ u, u < 3 → ¬ (o : Int) ∈ (S u).take (k u)) → V.getD o 0 = d
section
variable {val : Nat → Int} {d : Int} {S : Nat → List Int} {k : Nat → Nat} {V : List Int}
theorem getD_set {V : List Int} {o p : Nat} {x : Int} (h : o < V.length) : (V.set o x).getD p 0 = if p = o then x else V.getD p 0 := by
  rw [List.getD_eq_getElem?_getD, List.getElem?_set]
  split
  · rename_i e
    subst e
    simp
  · rename_i e
    rw [if_neg (Ne.symm e), List.getD_eq_getElem?_getD]
theorem GJ.cases (h : GJ val d S k V) (o : Nat) (ho : o < 6) : (∃ u, u < 3 ∧ (o : Int) ∈ (S u).take (k u) ∧ V.getD o 0 = val u) ∨ ((∀ u, u < 3 → ¬ (o : Int) ∈ (S u).take (k u)) ∧ V.getD o 0 = d) := by
  by_cases hx : ∃ u, u < 3 ∧ (o : Int) ∈ (S u).take (k u)
  · obtain ⟨u, hu, hm⟩ := hx
    exact .inl ⟨u, hu, hm, h.has o ho u hu hm⟩
  · have hn : ∀ u, u < 3 → ¬ (o : Int) ∈ (S u).take (k u) := fun u hu hm => hx ⟨u, hu, hm⟩
    exact .inr ⟨hn, h.not o ho hn⟩
theorem mem_take_succ {l : List Int} {k : Nat} {x y : Int} (h : l[k]? = some x) : y ∈ l.take (k + 1) ↔ y ∈ l.take k ∨ y = x := by
  rw [List.take_add_one, h]
  simp
/-- Thread t gets one more. -/
theorem GJ.more (h : GJ val d S k V) {t o : Nat} (ht : t < 3) (ho6 : o < 6) (ho : (S t)[k t]? = some (o : Int)) (hn : ∀ v, v < 3 → v ≠ t → ¬ (o : Int) ∈ (S v).take (k v)) : GJ val d S (upf k t (k t + 1)) (V.set o (val t)) := by
  have hl : o < V.length := by rw [h.len]; exact ho6
  refine ⟨by rw [List.length_set]; exact h.len, fun p hp u hu hm => ?_, fun p hp hm => ?_⟩
  · rw [getD_set hl]
    by_cases e : u = t
    · subst e
      rw [upf_at, mem_take_succ ho] at hm
      split
      · rfl
      · rename_i hpo
        rcases hm with hm | hm
        · exact h.has p hp u hu hm
        · exact absurd (by omega : p = o) hpo
    · rw [upf_ne e] at hm
      split
      · rename_i hpo
        subst hpo
        exact absurd hm (hn u hu e)
      · exact h.has p hp u hu hm
  · have hmt := hm t ht
    rw [upf_at, mem_take_succ ho] at hmt
    have hpo : p ≠ o := fun e => hmt (.inr (by rw [e]))
    rw [getD_set hl, if_neg hpo]
    refine h.not p hp fun u hu hx => ?_
    by_cases e : u = t
    · subst e
      exact hmt (.inl hx)
    · have := hm u hu
      rw [upf_ne e] at this
      exact this hx
end
/-- The words of the records: thread u's mark is u + 1. -/
abbrev GI (S : Nat → List Int) (k : Nat → Nat) (V : List Int) : Prop := GJ (fun u => (u : Int) + 1) 0 S k V
/-- The table of holders. -/
abbrev GH (S : Nat → List Int) (k : Nat → Nat) (H : List Int) : Prop := GJ (fun u => (u : Int)) (-1) S k H
section
variable {S : Nat → List Int} {k : Nat → Nat} {V : List Int}
theorem GI.word (h : GI S k V) (o : Nat) : 0 ≤ V.getD o 0 ∧ V.getD o 0 ≤ 3 := by
  rcases Nat.lt_or_ge o 6 with ho | ho
  · rcases h.cases o ho with ⟨u, hu, _, e⟩ | ⟨_, e⟩ <;> rw [e] <;> omega
  · rw [List.getD_eq_getElem?_getD, List.getElem?_eq_none (by rw [h.len]; exact ho)]
    decide
theorem GI.one (h : GI S k V) {o u v : Nat} (ho : o < 6) (hu : u < 3) (hv : v < 3) (h1 : (o : Int) ∈ (S u).take (k u)) (h2 : (o : Int) ∈ (S v).take (k v)) : u = v := by
  have e1 := h.has o ho u hu h1
  have e2 := h.has o ho v hv h2
  omega
theorem GI.free (h : GI S k V) {o : Nat} (ho : o < 6) (h0 : V.getD o 0 = 0) : ∀ v, v < 3 → ¬ (o : Int) ∈ (S v).take (k v) := fun v hv hm => by
  have e := h.has o ho v hv hm
  omega
/-- The words when the records of a list are free. -/
def relK (l : List Int) (V : List Int) : List Int := l.foldl (fun V x => V.set x.toNat 0) V
theorem relK_len (l V : List Int) : (relK l V).length = V.length := by
  unfold relK
  induction l generalizing V with
  | nil => rfl
  | cons x xs ih => rw [List.foldl_cons, ih, List.length_set]
theorem relK_take {l V : List Int} {j : Nat} {x : Int} (h : l[j]? = some x) : relK (l.take (j + 1)) V = (relK (l.take j) V).set x.toNat 0 := by
  unfold relK
  rw [List.take_add_one, h, List.foldl_append]
  rfl
theorem relK_get (l V : List Int) (hl : ∀ x ∈ l, 0 ≤ x ∧ x < V.length) (o : Nat) : (relK l V).getD o 0 = if (o : Int) ∈ l then 0 else V.getD o 0 := by
  unfold relK
  induction l generalizing V with
  | nil => simp
  | cons x xs ih =>
    have hx := hl x List.mem_cons_self
    rw [List.foldl_cons, ih _ (fun y hy => by rw [List.length_set]; exact hl y (List.mem_cons_of_mem _ hy)), getD_set (by omega)]
    by_cases h1 : (o : Int) ∈ xs
    · simp [h1]
    · by_cases h2 : (o : Int) = x
      · rw [if_neg h1, if_pos (by omega), if_pos (by rw [h2]; exact List.mem_cons_self)]
      · rw [if_neg h1, if_neg (by omega), if_neg (by simp only [List.mem_cons]; rintro (h | h); exact h2 h; exact h1 h)]
theorem GI.release (h : GI S k V) (hS : SOk S) {t : Nat} (ht : t < 3) (hk : k t = (S t).length) : GI S (upf k t 0) (relK (S t) V) := by
  have hin : ∀ x ∈ S t, 0 ≤ x ∧ x < V.length := fun x hx => by
    have := hS.inS t ht x hx
    rw [h.len]
    omega
  refine ⟨by rw [relK_len]; exact h.len, fun o ho u hu hm => ?_, fun o ho hm => ?_⟩
  · rw [relK_get _ _ hin]
    by_cases e : u = t
    · subst e
      rw [upf_at] at hm
      simp at hm
    · rw [upf_ne e] at hm
      rw [if_neg fun hx => e (h.one ho hu ht hm (by rw [hk, List.take_length]; exact hx))]
      exact h.has o ho u hu hm
  · rw [relK_get _ _ hin]
    split
    · rfl
    · rename_i hx
      refine h.not o ho fun u hu hm2 => ?_
      by_cases e : u = t
      · subst e
        exact hx (List.mem_of_mem_take hm2)
      · have := hm u hu
        rw [upf_ne e] at this
        exact this hm2
end
/-! Rounds. -/
structure SL where
  k : Nat → Nat
  r : Nat → Bool
  n : Nat → Bool
  V : List Int
/-- What a thread that is still there holds. -/
def eff (s : SL) (u : Nat) : Nat := if s.n u = true then 0 else s.k u
/-- What is left to a thread. -/
def rest (S : Nat → List Int) (s : SL) (u : Nat) : Nat := if s.n u = true then 0 else (S u).length - s.k u + 1
def restA (S : Nat → List Int) (s : SL) : Nat := rest S s 0 + rest S s 1 + rest S s 2
def nO (S : Nat → List Int) (s : SL) (u : Nat) : Nat := ((S u).getD (s.k u) 0).toNat
/-- Thread t's turn. -/
inductive Nx (S : Nat → List Int) (t : Nat) (s s' : SL) : Prop where
  | gone (h : s.n t = true) (e : s' = s)
  | rel (h : s.n t = false) (hk : s.k t = (S t).length) (en : s'.n = upf s.n t true) (ek : s'.k = s.k)
  | take (h : s.n t = false) (hk : s.k t < (S t).length) (en : s'.n = s.n) (ek : s'.k = upf s.k t (s.k t + 1))
  | stay (h : s.n t = false) (hk : s.k t < (S t).length) (en : s'.n = s.n) (ek : s'.k = s.k) (ev : s'.V = s.V) (er : ∀ v, v ≠ t → s'.r v = s.r v) (h0 : s.V.getD (nO S s t) 0 = 0 → s.r t = false ∧ s'.r t = true)
/-- What a round has made of s0 behind the turns of the threads below t. -/
def Rd (S : Nat → List Int) (s0 : SL) (t : Nat) (s : SL) : Prop :=
  restA S s < restA S s0 ∨ (s.k = s0.k ∧ s.n = s0.n ∧ s.V = s0.V ∧ (∀ v, t ≤ v → s.r v = s0.r v) ∧ ∀ v, v < t → s0.n v = false → s0.k v < (S v).length ∧ (s0.V.getD (nO S s0 v) 0 = 0 → s0.r v = false ∧ s.r v = true))
theorem rest_le {S : Nat → List Int} {t : Nat} {s s' : SL} (h : Nx S t s s') (u : Nat) : rest S s' u ≤ rest S s u := by
  cases h with
  | gone h e => subst e; exact Nat.le_refl _
  | rel h hk en ek =>
    unfold rest
    rw [en, ek]
    by_cases e : u = t
    · subst e
      rw [upf_at, if_pos rfl]
      omega
    · rw [upf_ne e]
      exact Nat.le_refl _
  | take h hk en ek =>
    unfold rest
    rw [en, ek]
    by_cases e : u = t
    · subst e
      rw [upf_at]
      split <;> omega
    · rw [upf_ne e]
      exact Nat.le_refl _
  | stay h hk en ek ev er h0 =>
    unfold rest
    rw [en, ek]
    exact Nat.le_refl _
theorem restA_le {S : Nat → List Int} {t : Nat} {s s' : SL} (h : Nx S t s s') : restA S s' ≤ restA S s := by
  have h0 := rest_le h 0
  have h1 := rest_le h 1
  have h2 := rest_le h 2
  unfold restA
  omega
theorem restA_lt {S : Nat → List Int} {t : Nat} {s s' : SL} (ht : t < 3) (h : Nx S t s s') (hl : rest S s' t < rest S s t) : restA S s' < restA S s := by
  have h0 := rest_le h 0
  have h1 := rest_le h 1
  have h2 := rest_le h 2
  have : t = 0 ∨ t = 1 ∨ t = 2 := by omega
  unfold restA
  rcases this with rfl | rfl | rfl <;> omega
theorem rd_start (S : Nat → List Int) (s : SL) : Rd S s 0 s := .inr ⟨rfl, rfl, rfl, fun _ _ => rfl, fun v h => absurd h (Nat.not_lt_zero _)⟩
theorem rd_next {S : Nat → List Int} {s0 s s' : SL} {t : Nat} (ht : t < 3) (h : Rd S s0 t s) (hx : Nx S t s s') : Rd S s0 (t + 1) s' := by
  rcases h with h | ⟨ek, en, ev, er, hd⟩
  · exact .inl (Nat.lt_of_le_of_lt (restA_le hx) h)
  · have hR : restA S s = restA S s0 := by unfold restA rest; rw [ek, en]
    have hO : ∀ v, nO S s v = nO S s0 v := fun v => by unfold nO; rw [ek]
    have hx' := hx
    cases hx with
    | gone h e =>
      subst e
      refine .inr ⟨ek, en, ev, fun v hv => er v (by omega), fun v hv hn => ?_⟩
      rcases Nat.lt_or_ge v t with h1 | h1
      · exact hd v h1 hn
      · obtain rfl : v = t := by omega
        rw [← en, h] at hn
        cases hn
    | rel h hk en2 ek2 =>
      refine .inl ?_
      rw [← hR]
      refine restA_lt ht hx' ?_
      unfold rest
      rw [en2, upf_at, if_pos rfl, h]
      simp
    | take h hk en2 ek2 =>
      refine .inl ?_
      rw [← hR]
      refine restA_lt ht hx' ?_
      unfold rest
      rw [en2, h, ek2, upf_at]
      simp
      omega
    | stay h hk en2 ek2 ev2 er2 h0 =>
      refine .inr ⟨ek2.trans ek, en2.trans en, ev2.trans ev, fun v hv => (er2 v (by omega)).trans (er v (by omega)), fun v hv hn => ?_⟩
      rcases Nat.lt_or_ge v t with h1 | h1
      · obtain ⟨a1, a2⟩ := hd v h1 hn
        exact ⟨a1, fun hz => ⟨(a2 hz).1, (er2 v (by omega)).trans (a2 hz).2⟩⟩
      · obtain rfl : v = t := by omega
        rw [← ek]
        refine ⟨hk, fun hz => ?_⟩
        rw [← hO v, ← ev] at hz
        rw [← er v (Nat.le_refl _)]
        exact h0 hz
/-- Some thread is about to get a record that is free. -/
def ready (S : Nat → List Int) (s : SL) : Prop := ∃ v, v < 3 ∧ s.n v = false ∧ s.k v < (S v).length ∧ s.r v = true ∧ s.V.getD (nO S s v) 0 = 0
def allGone (s : SL) : Prop := s.n 0 = true ∧ s.n 1 = true ∧ s.n 2 = true
def Bd (S : Nat → List Int) (b : Nat) (s : SL) : Prop := 2 * restA S s ≤ b ∨ (2 * restA S s ≤ b + 1 ∧ ready S s)
theorem rest_pos {S : Nat → List Int} {s : SL} {u : Nat} (h : s.n u = false) : 1 ≤ rest S s u := by
  unfold rest
  rw [h]
  simp
theorem top_one {S : Nat → List Int} {s : SL} (hg : ¬ allGone s) : ∃ u, u < 3 ∧ s.n u = false ∧ ∀ v, v < 3 → s.n v = false → nO S s v ≤ nO S s u := by
  unfold allGone at hg
  have key : ∀ m : Nat, m ≤ 3 → (∀ v, v < m → s.n v = true) ∨ ∃ u, u < m ∧ s.n u = false ∧ ∀ v, v < m → s.n v = false → nO S s v ≤ nO S s u := by
    intro m
    induction m with
    | zero => exact fun _ => .inl fun v h => absurd h (Nat.not_lt_zero _)
    | succ m ih =>
      intro hm
      cases hn : s.n m with
      | true =>
        rcases ih (by omega) with h | ⟨u, hu, h1, h2⟩
        · exact .inl fun v hv => by
            rcases Nat.lt_or_ge v m with h3 | h3
            · exact h v h3
            · obtain rfl : v = m := by omega
              exact hn
        · exact .inr ⟨u, by omega, h1, fun v hv hv2 => by
            rcases Nat.lt_or_ge v m with h3 | h3
            · exact h2 v h3 hv2
            · obtain rfl : v = m := by omega
              rw [hn] at hv2
              cases hv2⟩
      | false =>
        rcases ih (by omega) with h | ⟨u, hu, h1, h2⟩
        · exact .inr ⟨m, by omega, hn, fun v hv hv2 => by
            rcases Nat.lt_or_ge v m with h3 | h3
            · rw [h v h3] at hv2
              cases hv2
            · obtain rfl : v = m := by omega
              exact Nat.le_refl _⟩
        · rcases Nat.le_total (nO S s u) (nO S s m) with h4 | h4
          · exact .inr ⟨m, by omega, hn, fun v hv hv2 => by
              rcases Nat.lt_or_ge v m with h3 | h3
              · exact Nat.le_trans (h2 v h3 hv2) h4
              · obtain rfl : v = m := by omega
                exact Nat.le_refl _⟩
          · exact .inr ⟨u, by omega, h1, fun v hv hv2 => by
              rcases Nat.lt_or_ge v m with h3 | h3
              · exact h2 v h3 hv2
              · obtain rfl : v = m := by omega
                exact h4⟩
  rcases key 3 (Nat.le_refl _) with h | h
  · exact absurd ⟨h 0 (by omega), h 1 (by omega), h 2 (by omega)⟩ hg
  · exact h
theorem top_free {S : Nat → List Int} {s : SL} (hS : SOk S) (hI : GI S (eff s) s.V) (hk : ∀ v, v < 3 → s.n v = false → s.k v < (S v).length) {u : Nat} (hu : u < 3) (hn : s.n u = false) (ht : ∀ v, v < 3 → s.n v = false → nO S s v ≤ nO S s u) : s.V.getD (nO S s u) 0 = 0 := by
  have at_ : ∀ v, v < 3 → s.n v = false → (S v)[s.k v]? = some (nO S s v : Int) ∧ nO S s v < 6 := fun v hv hnv => by
    have hl := hk v hv hnv
    have h0 := hS.inS v hv ((S v)[s.k v]'hl) (List.getElem_mem hl)
    unfold nO
    rw [List.getD_eq_getElem?_getD, List.getElem?_eq_getElem hl, Option.getD_some]
    exact ⟨by congr 1; omega, by omega⟩
  obtain ⟨hat, h6⟩ := at_ u hu hn
  refine hI.not _ h6 fun v hv hm => ?_
  unfold eff at hm
  cases hnv : s.n v with
  | true => rw [hnv] at hm; simp at hm
  | false =>
    rw [hnv] at hm
    simp only [Bool.false_eq_true, if_false] at hm
    obtain ⟨i, hi, he⟩ := List.mem_take_iff_getElem.1 hm
    have h1 : (S v)[i]? = some (nO S s u : Int) := by rw [← he]; exact List.getElem?_eq_getElem _
    have h2 := asc_lt (hS.asc v hv) h1 (at_ v hv hnv).1 (by omega)
    have := ht v hv hnv
    omega
theorem round_down {S : Nat → List Int} {s0 s : SL} {b : Nat} (hS : SOk S) (hI : GI S (eff s0) s0.V) (hb : Bd S b s0) (hr : Rd S s0 3 s) (hg : ¬ allGone s0) : 1 ≤ b ∧ Bd S (b - 1) s := by
  obtain ⟨u, hu, hn, htop⟩ := top_one (S := S) hg
  have h1 : 1 ≤ restA S s0 := by
    have := rest_pos (S := S) hn
    have hu' : u = 0 ∨ u = 1 ∨ u = 2 := by omega
    unfold restA
    rcases hu' with rfl | rfl | rfl <;> omega
  rcases hr with hr | ⟨ek, en, ev, er, hd⟩
  · have : 2 * restA S s0 ≤ b + 1 := by
      rcases hb with hb | hb
      · omega
      · exact hb.1
    exact ⟨by omega, .inl (by omega)⟩
  · have hR : restA S s = restA S s0 := by unfold restA rest; rw [ek, en]
    have hO : ∀ v, nO S s v = nO S s0 v := fun v => by unfold nO; rw [ek]
    have hnr : ¬ ready S s0 := by
      rintro ⟨v, hv, h2, h3, h4, h5⟩
      have := ((hd v hv h2).2 h5).1
      rw [h4] at this
      cases this
    have hb2 : 2 * restA S s0 ≤ b := by
      rcases hb with hb | hb
      · exact hb
      · exact absurd hb.2 hnr
    have hfree := top_free hS hI (fun v hv hnv => (hd v hv hnv).1) hu hn htop
    refine ⟨by omega, .inr ⟨by rw [hR]; omega, u, hu, ?_, ?_, ((hd u hu hn).2 hfree).2, ?_⟩⟩
    · rw [en]; exact hn
    · rw [ek]; exact (hd u hu hn).1
    · rw [hO, ev]; exact hfree
end Go.Proofs.YtphnadchdhblpaaGreat.LkQ
