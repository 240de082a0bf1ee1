/-
  Check of a program, in plain words: the program's way and the reference's give the same.
-/
import Derived.Test.YthnhmclnfgkppaaDoorPgT
import Derived.Test.YthnhmclnfgkppaaDoorPrgL
namespace Go.Proofs.YthnhmclnfgkppaaDoor.PgU
open Go.RowKit
open IsaS IsaB PrgS PgS PgT
set_option linter.unusedVariables false

theorem find_congr {α : Type} {p q : α → Bool} : ∀ {l : List α}, (∀ y ∈ l, p y = q y) → l.find? p = l.find? q
  | [], _ => rfl
  | a :: l, h => by
    rw [List.find?_cons, List.find?_cons, h a (by simp), find_congr (fun y hy => h y (by simp [hy]))]
theorem pw {α : Type} {R : α → α → Prop} {l : List α} (h : l.Pairwise R) {a b : α} (ha : a ∈ l) (hb : b ∈ l) : a = b ∨ R a b ∨ R b a := by
  induction h with
  | nil => cases ha
  | cons h1 h2 ih =>
    rcases List.mem_cons.1 ha with ha' | ha'
    · rcases List.mem_cons.1 hb with hb' | hb'
      · exact .inl (ha'.trans hb'.symm)
      · exact .inr (.inl (ha' ▸ h1 _ hb'))
    · rcases List.mem_cons.1 hb with hb' | hb'
      · exact .inr (.inr (hb' ▸ h1 _ ha'))
      · exact ih ha' hb'
theorem tx_begin {ps : List I5} {t : Int × Int} (h : t ∈ txV ps) : ∃ (j : Nat) (x : I5), ps[j]? = some x ∧ x.op = 7 ∧ t.1 = j := by
  rcases txGo_begin7 ps 0 false 0 t h with ⟨h, _⟩ | ⟨j, x, h1, h2, h3⟩
  · cases h
  · exact ⟨j, x, h1, h2, by omega⟩
theorem tx_hi {ps : List I5} {t : Int × Int} (h : t ∈ txV ps) : 0 ≤ t.2 ∧ t.2 ≤ ps.length := txGo_hi ps 0 false 0 (by omega) t h
theorem tx_sorted (ps : List I5) : (txV ps).Pairwise (fun t s => t.2 < s.1) := txGo_sorted ps 0 false 0
theorem inTx_iff {n k : Int} {t : Int × Int} : inTx n k t = true ↔ t.1 < k ∧ k ≤ t.2 ∧ k < n := by
  unfold inTx
  simp only [Bool.and_eq_true, decide_eq_true_eq, and_assoc]
theorem inS_iff {n k : Int} {t : Int × Int} : inS n k t = true ↔ t.1 ≤ k ∧ k ≤ t.2 ∧ k < n := by
  unfold inS
  simp only [Bool.and_eq_true, decide_eq_true_eq, and_assoc]
theorem not_of {b : Bool} (h : ¬ b = true) : b = false := by cases b <;> simp at h ⊢
def permV (ps : List I5) (k t : Int) : Bool := match aroundV ps k with
  | some x => decide (t ≤ x.2)
  | none => decide (t ≤ ps.length) && (aroundV ps t).isNone
theorem perm_eq {ps : List I5} {k : Nat} {x : I5} (hx : ps[k]? = some x) (h7 : x.op ≠ 7) (t : Int) : permV ps k t = reachesV ps k t := by
  have hc : (txV ps).find? (inS ps.length k) = aroundV ps k := find_congr (fun y hy => by
    obtain ⟨j, z, h1, h2, h3⟩ := tx_begin hy
    cases e : inTx ps.length k y with
    | true =>
      have := inTx_iff.1 e
      exact inS_iff.2 ⟨by omega, this.2⟩
    | false =>
      refine not_of fun h => ?_
      have h4 := inS_iff.1 h
      have h5 : ¬ (y.1 < k) := fun h6 => by rw [inTx_iff.2 ⟨h6, h4.2⟩] at e; cases e
      have h6 : j = k := by omega
      subst h6
      rw [hx] at h1
      cases h1
      exact h7 h2)
  unfold permV reachesV
  rw [spanV_eq, hc]
  cases ha : aroundV ps k with
  | some y =>
    have hy : y ∈ txV ps := List.mem_of_find?_eq_some ha
    obtain ⟨j, z, h1, h2, h3⟩ := tx_begin hy
    have hhi := tx_hi hy
    rw [show spOf (some y) = y from rfl]
    show decide (t ≤ y.2) = _
    by_cases ht : (ps.length : Int) < t
    · rw [if_pos ht]
      exact decide_eq_false (by omega)
    · rw [if_neg ht, if_pos (by omega)]
  | none =>
    rw [show spOf none = ((-1, -1) : Int × Int) from rfl]
    show (decide (t ≤ ps.length) && (aroundV ps t).isNone) = _
    have hneg : ¬ (0 : Int) ≤ ((-1, -1) : Int × Int).1 := by decide
    by_cases ht : (ps.length : Int) < t
    · rw [if_pos ht, decide_eq_false (by omega)]
      rfl
    · rw [if_neg ht, if_neg hneg, decide_eq_true (by omega), Bool.true_and, spanV_eq]
      cases hs : (txV ps).find? (inS ps.length t) with
      | none =>
        have hn : aroundV ps t = none := find_no (fun y hy => not_of fun h => by
          have h1 := List.find?_eq_none.1 hs y hy
          have h2 := inTx_iff.1 h
          exact h1 (inS_iff.2 ⟨by omega, h2.2⟩))
        rw [hn]
        rfl
      | some y =>
        have hy : y ∈ txV ps := List.mem_of_find?_eq_some hs
        have hp := inS_iff.1 (List.find?_some hs)
        obtain ⟨j, z, h1, h2, h3⟩ := tx_begin hy
        rw [show spOf (some y) = y from rfl, decide_eq_false (by omega : ¬ y.1 < 0), Bool.false_or]
        by_cases he : y.1 = t
        · rw [decide_eq_true he]
          have hn : aroundV ps t = none := find_no (fun z hz => not_of fun h => by
            have h2 := inTx_iff.1 h
            rcases pw (tx_sorted ps) hz hy with rfl | h3 | h3
            · omega
            · omega
            · omega)
          rw [hn]
          rfl
        · rw [decide_eq_false he]
          cases hn : aroundV ps t with
          | some _ => rfl
          | none =>
            have := List.find?_eq_none.1 hn y hy
            exact absurd (inTx_iff.2 ⟨by omega, hp.2⟩) this

/-! ### The state of the search at position k. -/
def St (ps : List I5) (k : Nat) (op : Bool) (b : Int) : Prop := k ≤ ps.length ∧ (op = true → 0 ≤ b ∧ b < k) ∧ ∃ pre, txV ps = pre ++ txGo ps.length (ps.drop k) k op b ∧ ∀ t ∈ pre, t.2 < (k : Int)
def oOf (op : Bool) (b : Int) : Int := if op then b else -1
theorem st_zero (ps : List I5) : St ps 0 false 0 := ⟨by omega, (fun h => by cases h), [], rfl, fun t h => by cases h⟩
theorem st_lo {ps : List I5} {k : Nat} {op : Bool} {b : Int} (h : St ps k op b) : (op = true → 0 ≤ oOf op b) ∧ (op = false → oOf op b < 0) := by
  unfold oOf
  cases op with
  | true => exact ⟨fun _ => (h.2.1 rfl).1, (fun h => by cases h)⟩
  | false => exact ⟨(fun h => by cases h), fun _ => by simp⟩
theorem st_around {ps : List I5} {k : Nat} {op : Bool} {b : Int} (h : St ps k op b) (hk : k < ps.length) : (aroundV ps k).isSome = op := by
  obtain ⟨_, hb, pre, he, hp⟩ := h
  cases op with
  | false =>
    have hn : aroundV ps k = none := find_no (fun t ht => not_of fun hc => by
      have h2 := inTx_iff.1 hc
      rw [he] at ht
      rcases List.mem_append.1 ht with h3 | h3
      · have := hp t h3
        omega
      · rcases txGo_lo _ _ _ _ t h3 with ⟨h4, _⟩ | h4
        · cases h4
        · omega)
    rw [hn]
    rfl
  | true =>
    have hl : (k : Int) + (ps.drop k).length = ps.length := by rw [List.length_drop]; omega
    obtain ⟨c, rest, h1, h2, h3⟩ := txGo_open (ps.drop k) k b hl
    cases hn : aroundV ps k with
    | some _ => rfl
    | none =>
      have h4 := hb rfl
      have := List.find?_eq_none.1 hn (b, c) (by rw [he, h1]; simp)
      exact absurd (inTx_iff.2 ⟨h4.2, h2, by omega⟩) this
theorem st_step {ps : List I5} {k : Nat} {op : Bool} {b : Int} {x : I5} (h : St ps k op b) (hx : ps[k]? = some x) :
    (op = false → x.op = 7 → St ps (k + 1) true k) ∧ (op = true → x.op = 8 → St ps (k + 1) false b) ∧ (¬ (x.op = 7 ∧ op = false) → ¬ (x.op = 8 ∧ op = true) → St ps (k + 1) op b) := by
  obtain ⟨_, hb, pre, he, hp⟩ := h
  have hk : k < ps.length := (List.getElem?_eq_some_iff.1 hx).1
  rw [drop_cons_of hx] at he
  have hk1 : ((k + 1 : Nat) : Int) = (k : Int) + 1 := by omega
  refine ⟨fun ho h7 => ?_, fun ho h8 => ?_, fun a c => ?_⟩
  · subst ho
    rw [txGo_begin h7] at he
    exact ⟨by omega, fun _ => ⟨by omega, by omega⟩, pre, by rw [hk1]; exact he, fun t ht => by have := hp t ht; omega⟩
  · subst ho
    rw [txGo_commit h8] at he
    refine ⟨by omega, (fun h => by cases h), pre ++ [(b, (k : Int))], by rw [hk1, List.append_assoc]; exact he, fun t ht => ?_⟩
    rcases List.mem_append.1 ht with h3 | h3
    · have := hp t h3
      omega
    · simp at h3
      subst h3
      simp only
      omega
  · rw [txGo_other a c] at he
    exact ⟨by omega, fun ho => by have := hb ho; omega, pre, by rw [hk1]; exact he, fun t ht => by have := hp t ht; omega⟩
/-! ### One position. -/
def caV (ps : List I5) (k : Nat) (x : I5) : Int :=
  if chkI x ≠ 0 then chkI x else if (x.op = 7 ∧ (aroundV ps k).isSome = true) ∨ (x.op = 8 ∧ (aroundV ps k).isSome = false) then 40
  else if (plI x = 1 ∧ (aroundV ps k).isSome = false) ∨ (plI x = 2 ∧ (aroundV ps k).isSome = true) then 41
  else if skB x = true ∧ permV ps k (k + 1 + skV x) = false then 42 else 0
theorem skB_op {x : I5} (h : skB x = true) : x.op = 4 ∨ x.op = 5 ∨ x.op = 6 := by
  unfold skB skipsB at h
  simp only [Bool.and_eq_true, Bool.or_eq_true, decide_eq_true_eq] at h
  omega
theorem ca_eq {ps : List I5} {k : Nat} {op : Bool} {b : Int} {x : I5} (h : St ps k op b) (hx : ps[k]? = some x) : caV ps k x = errAt ps k x (oOf op b) := by
  have hk : k < ps.length := (List.getElem?_eq_some_iff.1 hx).1
  have ha := st_around h hk
  obtain ⟨l1, l2⟩ := st_lo h
  unfold caV errAt
  rw [ha]
  by_cases h1 : chkI x ≠ 0
  · rw [if_pos h1, if_pos h1]
  · rw [if_neg h1, if_neg h1]
    have e2 : (x.op = 7 ∧ op = true) ∨ (x.op = 8 ∧ op = false) ↔ nestB x (oOf op b) = true := by
      unfold nestB
      simp only [Bool.or_eq_true, Bool.and_eq_true, decide_eq_true_eq]
      cases op with
      | true => have := l1 rfl; simp; omega
      | false => have := l2 rfl; simp; omega
    have e3 : (plI x = 1 ∧ op = false) ∨ (plI x = 2 ∧ op = true) ↔ placeB (plI x) (oOf op b) = true := by
      unfold placeB
      simp only [Bool.or_eq_true, Bool.and_eq_true, decide_eq_true_eq]
      cases op with
      | true => have := l1 rfl; simp; omega
      | false => have := l2 rfl; simp; omega
    by_cases h2 : nestB x (oOf op b) = true
    · rw [if_pos h2, if_pos (e2.2 h2)]
    · rw [if_neg h2, if_neg (fun h => h2 (e2.1 h))]
      by_cases h3 : placeB (plI x) (oOf op b) = true
      · rw [if_pos h3, if_pos (e3.2 h3)]
      · rw [if_neg h3, if_neg (fun h => h3 (e3.1 h))]
        by_cases h4 : skB x = true
        · rw [perm_eq hx (by have := skB_op h4; omega)]
        · rw [if_neg (fun h => h4 h.1), if_neg (fun h => h4 h.1)]
theorem st_next {ps : List I5} {k : Nat} {op : Bool} {b : Int} {x : I5} (h : St ps k op b) (hx : ps[k]? = some x) (he : errAt ps k x (oOf op b) = 0) : ∃ op' b', St ps (k + 1) op' b' ∧ nextO k x (oOf op b) = oOf op' b' := by
  obtain ⟨s1, s2, s3⟩ := st_step h hx
  obtain ⟨l1, l2⟩ := st_lo h
  have hn : nestB x (oOf op b) = false := by
    refine not_of fun hc => ?_
    unfold errAt at he
    by_cases h0 : chkI x ≠ 0
    · rw [if_pos h0] at he
      exact h0 he
    · rw [if_neg h0, if_pos hc] at he
      cases he
  unfold nestB at hn
  simp only [Bool.or_eq_false_iff, Bool.and_eq_false_iff, decide_eq_false_iff_not] at hn
  unfold nextO
  by_cases h7 : x.op = 7
  · have ho : op = false := by
      cases op with
      | false => rfl
      | true => have := l1 rfl; omega
    rw [if_pos h7]
    exact ⟨true, k, s1 ho h7, rfl⟩
  · rw [if_neg h7]
    by_cases h8 : x.op = 8
    · have ho : op = true := by
        cases op with
        | true => rfl
        | false => have := l2 rfl; omega
      rw [if_pos h8]
      exact ⟨false, b, s2 ho h8, rfl⟩
    · rw [if_neg h8]
      exact ⟨op, b, s3 (fun h => h7 h.1) (fun h => h8 h.1), rfl⟩
/-! ### The end. -/
def isLast (n : Int) (t : Int × Int) : Bool := decide (t.2 = n)
def lastV (ps : List I5) : Int × Int := match (txV ps).find? (isLast ps.length) with
  | some t => (t.1, 43)
  | none => (0, 0)
theorem st_end {ps : List I5} {op : Bool} {b : Int} (h : St ps ps.length op b) : chkGo ps [] ps.length (oOf op b) = lastV ps := by
  obtain ⟨l1, l2⟩ := st_lo h
  obtain ⟨_, hb, pre, he, hp⟩ := h
  rw [List.drop_length] at he
  have hpre : ∀ t ∈ pre, isLast ps.length t = false := fun t ht => by have := hp t ht; unfold isLast; exact decide_eq_false (by omega)
  unfold chkGo lastV
  rw [he]
  cases op with
  | false =>
    have := l2 rfl
    rw [if_neg (by omega)]
    simp only [txGo, Bool.false_eq_true, if_false, List.append_nil]
    rw [find_no hpre]
  | true =>
    have := l1 rfl
    rw [if_pos this]
    simp only [txGo, if_true]
    rw [find_at (List.prefix_refl _) (by unfold isLast; simp) hpre]
    rfl
end Go.Proofs.YthnhmclnfgkppaaDoor.PgU
