/-
  What a program that Check accepts is like: transactions, what may follow a position, weights of paths (plain mathematics).
-/
import Derived.Test.YthnhmclnfgkppaaDoorPgF
namespace Go.Proofs.YthnhmclnfgkppaaDoor.PgV
open Go.RowKit
open IsaS IsaB IsaA IsaE PrgS PrgC PgS PgT PgU PgF
set_option linter.unusedVariables false

structure Valid (ps : List I5) : Prop where
  len : ps.length ≤ 64
  ca : ∀ (k : Nat) x, ps[k]? = some x → caV ps k x = 0
  tx : ∀ t ∈ txV ps, t.2 < (ps.length : Int)
theorem go_valid {ps : List I5} : ∀ (m k : Nat) (op : Bool) (b : Int), m + k = ps.length → St ps k op b → chkGo ps (ps.drop k) k (oOf op b) = (0, 0) → (∀ (j : Nat) x, k ≤ j → ps[j]? = some x → caV ps j x = 0) ∧ lastV ps = (0, 0) := by
  intro m
  induction m with
  | zero =>
    intro k op b hk hs hc
    obtain rfl : k = ps.length := by omega
    rw [List.drop_length, st_end hs] at hc
    exact ⟨fun j x hj hx => by have := (List.getElem?_eq_some_iff.1 hx).1; omega, hc⟩
  | succ m ih =>
    intro k op b hk hs hc
    have hkl : k < ps.length := by omega
    have hx : ps[k]? = some (ps[k]'hkl) := List.getElem?_eq_getElem _
    rw [drop_cons_of hx, chkGo] at hc
    by_cases he : errAt ps k (ps[k]'hkl) (oOf op b) ≠ 0
    · rw [if_pos he] at hc
      injection hc with _ h2
      exact absurd h2 he
    · rw [if_neg he] at hc
      have he0 : errAt ps k (ps[k]'hkl) (oOf op b) = 0 := Classical.not_not.1 he
      obtain ⟨op', b', hs', hn⟩ := st_next hs hx he0
      rw [hn] at hc
      obtain ⟨h1, h2⟩ := ih (k + 1) op' b' (by omega) hs' hc
      refine ⟨fun j x hj hjx => ?_, h2⟩
      by_cases hjk : j = k
      · subst hjk
        rw [hx] at hjx
        cases hjx
        rw [ca_eq hs hx]
        exact he0
      · exact h1 j x (by omega) hjx
theorem valid_of {ps : List I5} (h : (refChk ps).2 = 0) : Valid ps := by
  have h' : ∀ {p : Int × Int}, chkGo ps ps 0 (-1) = p → p.2 = 0 → p = (0, 0) := by
    have key : ∀ (r : List I5) (k : Nat) (o : Int), (chkGo ps r k o).2 = 0 → chkGo ps r k o = (0, 0) := by
      intro r
      induction r with
      | nil => intro k o h; unfold chkGo at h ⊢; split at h <;> rename_i hc <;> simp_all
      | cons x r ih =>
        intro k o h
        unfold chkGo at h ⊢
        split at h
        · rename_i hc
          exact absurd h hc
        · rename_i hc
          rw [if_neg hc]
          exact ih _ _ h
    intro p hp h2
    rw [← hp] at h2 ⊢
    exact key _ _ _ h2
  unfold refChk at h
  by_cases hl : 64 < ps.length
  · rw [if_pos hl] at h
    cases h
  · rw [if_neg hl] at h
    obtain ⟨h1, h2⟩ := go_valid ps.length 0 false 0 rfl (st_zero ps) (h' rfl h)
    refine ⟨by omega, fun k x hx => h1 k x (by omega) hx, fun t ht => ?_⟩
    have hhi := tx_hi ht
    unfold lastV at h2
    cases hf : (txV ps).find? (isLast ps.length) with
    | some t' => rw [hf] at h2; injection h2 with _ h3; cases h3
    | none =>
      have h3 := List.find?_eq_none.1 hf t ht
      unfold isLast at h3
      simp only [decide_eq_true_eq] at h3
      omega
section
variable {ps : List I5} {k : Nat} {x : I5}
theorem Valid.chk (h : Valid ps) (hx : ps[k]? = some x) : chkI x = 0 := by
  have := h.ca k x hx
  unfold caV at this
  by_cases h0 : chkI x ≠ 0
  · rw [if_pos h0] at this
    exact this
  · exact Classical.not_not.1 h0
theorem Valid.nest (h : Valid ps) (hx : ps[k]? = some x) : ¬ ((x.op = 7 ∧ (aroundV ps k).isSome = true) ∨ (x.op = 8 ∧ (aroundV ps k).isSome = false)) := by
  have := h.ca k x hx
  unfold caV at this
  rw [if_neg (fun hc => hc (h.chk hx))] at this
  intro hn
  rw [if_pos hn] at this
  cases this
theorem Valid.place (h : Valid ps) (hx : ps[k]? = some x) : ¬ ((plI x = 1 ∧ (aroundV ps k).isSome = false) ∨ (plI x = 2 ∧ (aroundV ps k).isSome = true)) := by
  have := h.ca k x hx
  unfold caV at this
  rw [if_neg (fun hc => hc (h.chk hx)), if_neg (h.nest hx)] at this
  intro hn
  rw [if_pos hn] at this
  cases this
theorem Valid.perm (h : Valid ps) (hx : ps[k]? = some x) (hs : skB x = true) : permV ps k (k + 1 + skV x) = true := by
  have := h.ca k x hx
  unfold caV at this
  rw [if_neg (fun hc => hc (h.chk hx)), if_neg (h.nest hx), if_neg (h.place hx)] at this
  cases hp : permV ps k (k + 1 + skV x) with
  | true => rfl
  | false => rw [if_pos ⟨hs, hp⟩] at this; cases this
theorem txGo_commit8 {n : Int} (r : List I5) : ∀ (k : Int) (op : Bool) (b : Int), k + r.length = n → ∀ t ∈ txGo n r k op b, t.2 < n → ∃ (j : Nat) (x : I5), r[j]? = some x ∧ x.op = 8 ∧ t.2 = k + j := by
  induction r with
  | nil => intro k op b hk t h hl; cases op <;> simp [txGo] at h; subst h; simp at hl
  | cons x r ih =>
    intro k op b hk
    simp only [List.length_cons] at hk
    refine txGo_cases (P := fun l => ∀ t ∈ l, t.2 < n → ∃ (j : Nat) (y : I5), (x :: r)[j]? = some y ∧ y.op = 8 ∧ t.2 = k + j) ?_ ?_ ?_
    · intro _ _ t ht hl
      obtain ⟨j, y, h1, h2, h3⟩ := ih (k + 1) _ _ (by omega) t ht hl
      exact ⟨j + 1, y, by simpa using h1, h2, by omega⟩
    · intro ho h8 t ht hl
      rcases List.mem_cons.1 ht with rfl | ht
      · exact ⟨0, x, rfl, h8, by simp⟩
      · obtain ⟨j, y, h1, h2, h3⟩ := ih (k + 1) _ _ (by omega) t ht hl
        exact ⟨j + 1, y, by simpa using h1, h2, by omega⟩
    · intro _ _ t ht hl
      obtain ⟨j, y, h1, h2, h3⟩ := ih (k + 1) _ _ (by omega) t ht hl
      exact ⟨j + 1, y, by simpa using h1, h2, by omega⟩
theorem txGo_between {n : Int} (r : List I5) : ∀ (k : Int) (op : Bool) (b : Int), ∀ t ∈ txGo n r k op b, ∀ (j : Nat) (y : I5), r[j]? = some y → t.1 < k + j → k + j < t.2 → y.op ≠ 8 := by
  induction r with
  | nil => intro k op b t h j y hj; simp at hj
  | cons x r ih =>
    intro k op b
    have low : ∀ (op' : Bool) (b' : Int), (op' = true → b' = k) → ∀ t ∈ txGo n r (k + 1) op' b', k ≤ t.1 := by
      intro op' b' hb t ht
      rcases txGo_lo r _ _ _ t ht with ⟨h1, h2⟩ | h2
      · have := hb h1; omega
      · omega
    have tail : ∀ (op' : Bool) (b' : Int) (t : Int × Int), t ∈ txGo n r (k + 1) op' b' → ∀ (j : Nat) (y : I5), (x :: r)[j + 1]? = some y → t.1 < k + (j + 1 : Nat) → k + (j + 1 : Nat) < t.2 → y.op ≠ 8 :=
      fun op' b' t ht j y hj h1 h2 => ih (k + 1) op' b' t ht j y (by simpa using hj) (by omega) (by omega)
    refine txGo_cases (P := fun l => ∀ t ∈ l, ∀ (j : Nat) (y : I5), (x :: r)[j]? = some y → t.1 < k + j → k + j < t.2 → y.op ≠ 8) ?_ ?_ ?_
    · intro _ _ t ht j y hj h1 h2
      cases j with
      | zero => have := low true k (fun _ => rfl) t ht; omega
      | succ j => exact tail _ _ t ht j y hj h1 h2
    · intro ho h8 t ht j y hj h1 h2
      rcases List.mem_cons.1 ht with rfl | ht
      · simp only at h2; omega
      · cases j with
        | zero => have := low false b (fun h => by cases h) t ht; omega
        | succ j => exact tail _ _ t ht j y hj h1 h2
    · intro _ h8 t ht j y hj h1 h2
      cases j with
      | zero =>
        simp at hj
        subst hj
        intro h
        cases op with
        | true => exact h8 ⟨h, rfl⟩
        | false => have := low false b (fun h => by cases h) t ht; omega
      | succ j => exact tail _ _ t ht j y hj h1 h2
theorem txGo_lt {n : Int} (r : List I5) : ∀ (k : Int) (op : Bool) (b : Int), k + r.length = n → (op = true → b < k) → ∀ t ∈ txGo n r k op b, t.1 < t.2 := by
  induction r with
  | nil => intro k op b hk hb t h; cases op <;> simp [txGo] at h; subst h; have := hb rfl; simp at hk; simp only; omega
  | cons x r ih =>
    intro k op b hk hb
    simp only [List.length_cons] at hk
    refine txGo_cases (P := fun l => ∀ t ∈ l, t.1 < t.2) (fun _ _ => ih _ _ _ (by omega) (fun _ => by omega)) (fun ho _ t ht => ?_) (fun _ _ => ih _ _ _ (by omega) (fun h => by have := hb h; omega))
    rcases List.mem_cons.1 ht with rfl | ht
    · exact hb ho
    · exact ih _ _ _ (by omega) (fun h => by cases h) t ht
theorem tx_lt {t : Int × Int} (h : t ∈ txV ps) : t.1 < t.2 := txGo_lt ps 0 false 0 (by omega) (fun h => by cases h) t h
theorem tx_commit8 {t : Int × Int} (h : t ∈ txV ps) (hl : t.2 < (ps.length : Int)) : ∃ (j : Nat) (x : I5), ps[j]? = some x ∧ x.op = 8 ∧ t.2 = j := by
  obtain ⟨j, x, h1, h2, h3⟩ := txGo_commit8 ps 0 false 0 (by omega) t h hl
  exact ⟨j, x, h1, h2, by omega⟩
theorem tx_between {t : Int × Int} (h : t ∈ txV ps) (hx : ps[k]? = some x) (h1 : t.1 < k) (h2 : (k : Int) < t.2) : x.op ≠ 8 :=
  txGo_between ps 0 false 0 t h k x hx (by omega) (by omega)
theorem around_mem {t : Int × Int} (h : aroundV ps k = some t) : t ∈ txV ps ∧ t.1 < k ∧ (k : Int) ≤ t.2 := by
  have h1 := inTx_iff.1 (List.find?_some h)
  exact ⟨List.mem_of_find?_eq_some h, h1.1, h1.2.1⟩
theorem around_some_of {t : Int × Int} (ht : t ∈ txV ps) (h1 : t.1 < k) (h2 : (k : Int) ≤ t.2) (hk : k < ps.length) : (aroundV ps k).isSome = true := by
  cases h : aroundV ps k with
  | some _ => rfl
  | none => exact absurd (inTx_iff.2 ⟨h1, h2, by omega⟩) (List.find?_eq_none.1 h t ht)
theorem around_eq {t : Int × Int} (ht : t ∈ txV ps) (h1 : t.1 < k) (h2 : (k : Int) ≤ t.2) (hk : k < ps.length) : aroundV ps k = some t := by
  cases h : aroundV ps k with
  | none => exact absurd (inTx_iff.2 ⟨h1, h2, by omega⟩) (List.find?_eq_none.1 h t ht)
  | some s =>
    obtain ⟨hs, h3, h4⟩ := around_mem h
    rcases pw (tx_sorted ps) hs ht with rfl | h5 | h5
    · rfl
    · omega
    · omega
/-- The transaction that begins at k. -/
theorem Valid.begins (h : Valid ps) (hx : ps[k]? = some x) (h7 : x.op = 7) : ∃ c : Int, ((k : Int), c) ∈ txV ps ∧ (k : Int) < c := by
  have hk : k < ps.length := (List.getElem?_eq_some_iff.1 hx).1
  have key : ∀ (m j : Nat) (op : Bool) (b : Int), m + j = k → St ps j op b → ∃ op' b', St ps k op' b' := by
    intro m
    induction m with
    | zero => intro j op b hj hs; obtain rfl : j = k := (by omega); exact ⟨_, _, hs⟩
    | succ m ih =>
      intro j op b hj hs
      have hjx : ps[j]? = some (ps[j]'(by omega)) := List.getElem?_eq_getElem _
      have he := h.ca j _ hjx
      rw [ca_eq hs hjx] at he
      obtain ⟨op', b', hs', _⟩ := st_next hs hjx he
      exact ih (j + 1) op' b' (by omega) hs'
  obtain ⟨op, b, hs⟩ := key k 0 false 0 (by omega) (st_zero ps)
  have ha := st_around hs hk
  have ho : op = false := by
    cases op with
    | false => rfl
    | true => exact absurd (.inl ⟨h7, ha⟩) (h.nest hx)
  obtain ⟨s1, _, _⟩ := st_step hs hx
  obtain ⟨_, _, pre, he, _⟩ := s1 ho h7
  have hl : ((k + 1 : Nat) : Int) + (ps.drop (k + 1)).length = ps.length := by rw [List.length_drop]; omega
  obtain ⟨c, rest, h1, h2, h3⟩ := txGo_open (ps.drop (k + 1)) ((k + 1 : Nat) : Int) (k : Int) hl
  exact ⟨c, by rw [he, h1]; simp, by omega⟩
theorem Valid.commit_some (h : Valid ps) (hx : ps[k]? = some x) (h7 : x.op = 7) : ∃ t, (txV ps).find? (isAt k) = some t ∧ t ∈ txV ps ∧ t.1 = (k : Int) ∧ (k : Int) < t.2 := by
  obtain ⟨c, hc, hkc⟩ := h.begins hx h7
  cases hf : (txV ps).find? (isAt k) with
  | none => exact absurd (by unfold isAt; simp) (List.find?_eq_none.1 hf _ hc)
  | some t =>
    have ht := List.mem_of_find?_eq_some hf
    have h1 : t.1 = (k : Int) := by have h0 : isAt k t = true := List.find?_some hf; unfold isAt at h0; exact of_decide_eq_true h0
    refine ⟨t, rfl, ht, h1, ?_⟩
    have := tx_lt ht
    omega
theorem refChk_zero (h : Valid ps) : (refChk ps).2 = 0 := by
  unfold refChk
  rw [if_neg (by have := h.len; omega)]
  have key : ∀ (m k : Nat) (op : Bool) (b : Int), m + k = ps.length → St ps k op b → (chkGo ps (ps.drop k) k (oOf op b)).2 = 0 := by
    intro m
    induction m with
    | zero =>
      intro k op b hk hs
      obtain rfl : k = ps.length := by omega
      rw [List.drop_length, st_end hs]
      unfold lastV
      rw [find_no (fun t ht => by unfold isLast; exact decide_eq_false (by have := h.tx t ht; omega))]
    | succ m ih =>
      intro k op b hk hs
      have hx : ps[k]? = some (ps[k]'(by omega)) := List.getElem?_eq_getElem _
      have he := h.ca k _ hx
      rw [ca_eq hs hx] at he
      rw [drop_cons_of hx, chkGo, if_neg (fun hc => hc he)]
      obtain ⟨op', b', hs', hn⟩ := st_next hs hx he
      rw [hn]
      exact ih (k + 1) op' b' (by omega) hs'
  exact key ps.length 0 false 0 rfl (st_zero ps)
theorem Valid.commitV_begin (h : Valid ps) (hx : ps[k]? = some x) (h7 : x.op = 7) : ∃ t, t ∈ txV ps ∧ t.1 = (k : Int) ∧ commitV ps k = t.2 ∧ (k : Int) < t.2 ∧ t.2 < ps.length := by
  obtain ⟨t, h1, h2, h3, h4⟩ := h.commit_some hx h7
  refine ⟨t, h2, h3, ?_, h4, h.tx t h2⟩
  unfold commitV
  rw [if_neg (fun hc => hc (refChk_zero h)), h1]
theorem commitV_other (hx : ps[k]? = some x) (h7 : x.op ≠ 7) : commitV ps k = -1 := by
  unfold commitV
  split
  · rfl
  · rw [find_no (fun t ht => ?_)]
    unfold isAt
    refine decide_eq_false fun e => ?_
    obtain ⟨j, y, h1, h2, h3⟩ := tx_begin ht
    obtain rfl : j = k := by omega
    rw [hx] at h1
    cases h1
    exact h7 h2
theorem Valid.inside (h : Valid ps) {t : Int × Int} (ht : t ∈ txV ps) (hx : ps[k]? = some x) (h1 : t.1 < k) (h2 : (k : Int) < t.2) : x.op ≠ 7 ∧ x.op ≠ 8 := by
  have hk : k < ps.length := (List.getElem?_eq_some_iff.1 hx).1
  exact ⟨fun h7 => h.nest hx (.inl ⟨h7, around_some_of ht h1 (by omega) hk⟩), tx_between ht hx h1 h2⟩
end
/-! ### What may follow a position. -/
theorem chkI_range {x : I5} (h : chkI x = 0) : 0 ≤ x.op ∧ x.op < 18 := by
  rcases chk_cases x.op x.a x.b x.c x.i with ⟨_, h1, h2⟩ | h0 | h0
  · exact ⟨h1, h2⟩
  · unfold chkI at h; omega
  · unfold chkI at h; omega
def arEnd (ps : List I5) (k : Int) : Int := match aroundV ps k with
  | some t => t.2
  | none => 0
def folV (ps : List I5) (k : Int) (x : I5) : List Int :=
  if x.op = 9 then [arEnd ps k + 1] else if x.op = 5 ∨ x.op = 6 then [k + 1, k + 1 + skV x] else [k + 1 + skV x]
theorem Valid.fol {ps : List I5} (h : Valid ps) {k : Nat} {x : I5} (hx : ps[k]? = some x) : ∀ y ∈ folV ps k x, (k : Int) < y ∧ y ≤ ps.length := by
  have hk : k < ps.length := (List.getElem?_eq_some_iff.1 hx).1
  obtain ⟨s0, s1⟩ := skV_ok x
  have hle : (k : Int) + 1 + skV x ≤ ps.length := by
    cases hs : skB x with
    | false => have : skV x = 0 := by unfold skV skipsV; rw [show skipsB x.op x.a x.b x.c x.i = false from hs]; rfl
               omega
    | true =>
      have hp := h.perm hx hs
      unfold permV at hp
      cases ha : aroundV ps k with
      | some t => rw [ha] at hp; have := of_decide_eq_true hp; have := h.tx t (around_mem ha).1; omega
      | none => rw [ha] at hp; simp at hp; omega
  intro y hy
  unfold folV at hy
  by_cases h9 : x.op = 9
  · rw [if_pos h9] at hy
    simp at hy
    subst hy
    have hp := h.place hx
    have hpl : plI x = 1 := by
      unfold plI placeV
      rw [show IsaA.chk x.op x.a x.b x.c x.i = 0 from h.chk hx, if_pos rfl, h9]
      rfl
    unfold arEnd
    cases ha : aroundV ps k with
    | some t =>
      obtain ⟨h1, h2, h3⟩ := around_mem ha
      have := h.tx t h1
      simp only
      omega
    | none => exact absurd (.inl ⟨hpl, by rw [ha]; rfl⟩) hp
  · rw [if_neg h9] at hy
    by_cases h5 : x.op = 5 ∨ x.op = 6
    · rw [if_pos h5] at hy
      simp at hy
      omega
    · rw [if_neg h5] at hy
      simp at hy
      omega
/-! ### The weight of the rest of a path. -/
def mx (R : Nat → Int) (l : List Int) (m : Int) : Int := l.foldl (fun m y => max m (R y.toNat)) m
theorem mx_cons (R : Nat → Int) (y : Int) (l : List Int) (m : Int) : mx R (y :: l) m = mx R l (max m (R y.toNat)) := rfl
theorem mx_snoc (R : Nat → Int) (y : Int) (l : List Int) (m : Int) : mx R (l ++ [y]) m = max (mx R l m) (R y.toNat) := by unfold mx; rw [List.foldl_append]; rfl
theorem mx_ge (R : Nat → Int) : ∀ (l : List Int) (m : Int), m ≤ mx R l m ∧ ∀ y ∈ l, R y.toNat ≤ mx R l m := by
  intro l
  induction l with
  | nil => intro m; exact ⟨Int.le_refl _, fun y hy => by cases hy⟩
  | cons a l ih =>
    intro m
    rw [mx_cons]
    obtain ⟨h1, h2⟩ := ih (max m (R a.toNat))
    refine ⟨by omega, fun y hy => ?_⟩
    rcases List.mem_cons.1 hy with rfl | hy
    · omega
    · exact h2 y hy
theorem mx_le (R : Nat → Int) (B : Int) : ∀ (l : List Int) (m : Int), m ≤ B → (∀ y ∈ l, R y.toNat ≤ B) → mx R l m ≤ B := by
  intro l
  induction l with
  | nil => intro m h _; exact h
  | cons a l ih => intro m h h2; rw [mx_cons]; exact ih _ (by have := h2 a (by simp); omega) (fun y hy => h2 y (by simp [hy]))
theorem mx_congr {R S : Nat → Int} : ∀ (l : List Int) (m : Int), (∀ y ∈ l, R y.toNat = S y.toNat) → mx R l m = mx S l m := by
  intro l
  induction l with
  | nil => intro m _; rfl
  | cons a l ih => intro m h; rw [mx_cons, mx_cons, h a (by simp)]; exact ih _ (fun y hy => h y (by simp [hy]))
/-- R i: the greatest weight of a path from i until it has left hi, for all i from lo on; lo is where the search from behind stands. -/
structure Rest (ps : List I5) (wt : I5 → Int) (lo hi : Int) (R : Nat → Int) : Prop where
  low : ∀ i : Nat, (i : Int) < lo → R i = 0
  out : ∀ i : Nat, hi < (i : Int) → R i = 0
  eq : ∀ (i : Nat) x, lo ≤ (i : Int) → (i : Int) ≤ hi → ps[i]? = some x → R i = mx R (folV ps i x) 0 + wt x
section
variable {ps : List I5} {wt : I5 → Int} {lo hi : Int} {R : Nat → Int}
theorem Rest.nn (h : Rest ps wt lo hi R) (hh : hi < ps.length) (hw : ∀ x ∈ ps, 0 ≤ wt x) (i : Nat) : 0 ≤ R i := by
  by_cases h1 : (i : Int) < lo
  · rw [h.low i h1]; exact Int.le_refl _
  · by_cases h2 : hi < (i : Int)
    · rw [h.out i h2]; exact Int.le_refl _
    · have hx : ps[i]? = some (ps[i]'(by omega)) := List.getElem?_eq_getElem _
      rw [h.eq i _ (by omega) (by omega) hx]
      have := (mx_ge R (folV ps i (ps[i]'(by omega))) 0).1
      have := hw _ (List.getElem_mem (l := ps) (n := i) (by omega))
      omega
theorem Rest.ge (h : Rest ps wt lo hi R) {i : Nat} {x : I5} (h1 : lo ≤ (i : Int)) (h2 : (i : Int) ≤ hi) (hx : ps[i]? = some x) {y : Int} (hy : y ∈ folV ps i x) : R y.toNat + wt x ≤ R i := by
  rw [h.eq i x h1 h2 hx]
  have := (mx_ge R (folV ps i x) 0).2 y hy
  omega
end
end Go.Proofs.YthnhmclnfgkppaaDoor.PgV
