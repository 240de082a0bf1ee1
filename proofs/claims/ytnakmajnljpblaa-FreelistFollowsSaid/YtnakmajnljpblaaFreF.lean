/-
  FreelistFollows: regions that draw their order, by stages; both machines' state side by side.
-/
import Derived.Test.YtnakmajnljpblaaFreT
import Derived.Orders
import Derived.RowKit
namespace Go.Proofs.Ytnakmajnljpblaa.Rgn
open Go.RowKit
set_option linter.unusedVariables false

def mark (L : Nat → Bool) (i : Nat) : Nat → Bool := fun k => if k = i then true else L k
theorem mark_ne {L : Nat → Bool} {i k : Nat} (h : k ≠ i) : mark L i k = L k := if_neg h
theorem mark_self {L : Nat → Bool} {i : Nat} : mark L i i = true := if_pos rfl
section
variable {P : Program} {md : Region.Mode} {ops : Array Oper} {Q : Exit → Act → World → Prop}
theorem any_inv (Inv : (Nat → Bool) → Act → World → Prop)
    (step : ∀ L a w i, Inv L a w → i < ops.size → L i = false → (∀ o, ops[i]? = some o → ∀ e ∈ o.after, Region.binds md e = true → L e.on = true) → ∀ K : Act → World → Prop, (∀ a' w', Inv (mark L i) a' w' → K a' w') → wpOp P ops Q i K a w)
    (fin : ∀ L a w, Inv L a w → (∀ i, i < ops.size → L i = true) → Q .normal a w)
    (live : ∀ L : Nat → Bool, (∃ i, i < ops.size ∧ L i = false) → ∃ i, i < ops.size ∧ L i = false ∧ ∀ o, ops[i]? = some o → ∀ e ∈ o.after, Region.binds md e = true → L e.on = true) :
    ∀ (fuel : Nat) (listed : Array Bool) (a : Act) (w : World), listed.size = ops.size → ((List.range ops.size).filter (fun i => !listed.getD i true)).length ≤ fuel → Inv (fun k => listed.getD k false) a w → wpAny P md ops Q fuel listed a w := by
  have key : ∀ (listed : Array Bool) (i : Nat), listed.size = ops.size → i < ops.size → listed.getD i true = listed.getD i false := by
    intro listed i h1 h2
    simp [h1, h2]
  have allset : ∀ (listed : Array Bool), listed.size = ops.size → Region.ready md ops listed = [] → ∀ i, i < ops.size → listed.getD i false = true := by
    intro listed hs hr i hi
    cases hb : listed.getD i false with
    | true => rfl
    | false =>
      obtain ⟨j, hj, hjf, hjo⟩ := live (fun k => listed.getD k false) ⟨i, hi, hb⟩
      have : j ∈ Region.ready md ops listed := mem_ready.2 ⟨by rw [key listed j hs hj]; exact hjf, ops[j], Array.getElem?_eq_getElem hj, hjo _ (Array.getElem?_eq_getElem hj)⟩
      rw [hr] at this
      cases this
  intro fuel
  induction fuel with
  | zero =>
    intro listed a w hs hf hI
    have hall : ∀ i, i < ops.size → listed.getD i false = true := by
      intro i hi
      rw [← key listed i hs hi]
      cases hb : listed.getD i true with
      | true => rfl
      | false =>
        have : i ∈ (List.range ops.size).filter (fun i => !listed.getD i true) := List.mem_filter.2 ⟨List.mem_range.2 hi, by rw [hb]; rfl⟩
        have := List.length_pos_of_mem this
        omega
    refine ⟨?_, fin _ a w hI hall⟩
    apply List.eq_nil_iff_forall_not_mem.2
    intro j hj
    obtain ⟨h0, o, ho, _⟩ := mem_ready.1 hj
    have hj2 : j < ops.size := (Array.getElem?_eq_some_iff.1 ho).1
    rw [key listed j hs hj2, hall j hj2] at h0
    cases h0
  | succ fuel ih =>
    intro listed a w hs hf hI
    refine ⟨fun hr => fin _ a w hI (allset listed hs hr), fun i hi => ?_⟩
    obtain ⟨h0, o, ho, hall⟩ := mem_ready.1 hi
    have hi2 : i < ops.size := (Array.getElem?_eq_some_iff.1 ho).1
    refine step _ a w i hI hi2 (by rw [← key listed i hs hi2]; exact h0) (fun o' ho' e he hb => ?_) _ fun a' w' hI' => ih (listed.setIfInBounds i true) a' w' (by simpa using hs) ?_ ?_
    · rw [ho] at ho'
      injection ho' with ho'
      subst ho'
      exact hall e he hb
    · have hlt : ((List.range ops.size).filter (fun k => !(listed.setIfInBounds i true).getD k true)).length < ((List.range ops.size).filter (fun k => !listed.getD k true)).length := by
        have hsub : ((List.range ops.size).filter (fun k => !(listed.setIfInBounds i true).getD k true)) = ((List.range ops.size).filter (fun k => !listed.getD k true)).filter (fun k => k != i) := by
          rw [List.filter_filter]
          apply List.filter_congr
          intro k hk
          by_cases hki : k = i
          · subst hki
            simp [hs, hi2]
          · rw [getD_set_ne true (Ne.symm hki)]
            simp [hki]
        rw [hsub]
        have hm : i ∈ (List.range ops.size).filter (fun k => !listed.getD k true) := List.mem_filter.2 ⟨List.mem_range.2 hi2, by rw [h0]; rfl⟩
        exact List.length_filter_lt_length_iff_exists.2 ⟨i, hm, by simp⟩
      omega
    · have : (fun k => (listed.setIfInBounds i true).getD k false) = mark (fun k => listed.getD k false) i := by
        funext k
        unfold mark
        by_cases hk : k = i
        · subst hk
          simp [hs, hi2]
        · rw [if_neg hk, getD_set_ne false (Ne.symm hk)]
      rw [this]
      exact hI'
theorem eval_same {a : Act} {d : Nat} {v : Value} (h : d < a.tmps.size) : (a.put (some d) v).eval (.tmp d) = v := by
  simp [Act.eval, Act.put, h]
theorem eval_other {a : Act} {d k : Nat} {v : Value} (h : d ≠ k) : (a.put (some d) v).eval (.tmp k) = a.eval (.tmp k) := by
  simp [Act.eval, Act.put, Array.getElem?_setIfInBounds_ne h]
theorem eval_tmp (a : Act) (t : Nat) : a.tmps[t]?.getD undef = a.eval (.tmp t) := by
  simp [Act.eval]
def dst (ops : Array Oper) (i : Nat) : Option Nat := (ops[i]?.map (·.dst)).getD none
/-- An operation that is carried out. -/
theorem op_of {i : Nat} {o : Oper} {a : Act} {w : World} {K : Act → World → Prop} (h : ops[i]? = some o) (hg : o.guard = none) (hK : o.wp P a w K Q) : wpOp P ops Q i K a w := by
  unfold wpOp
  rw [h]
  have hw : Region.wanted o (yielded ops a.tmps) = true := by simp [Region.wanted, hg]
  simp only [hw, if_true]
  exact .inl hK
theorem op_of_guard {i j d : Nat} {b : Bool} {o : Oper} {a : Act} {w : World} {K : Act → World → Prop} (h : ops[i]? = some o) (hg : o.guard = some (j, b)) (hd : dst ops j = some d) (hv : a.tmps[d]?.getD undef = .bool b) (hK : o.wp P a w K Q) : wpOp P ops Q i K a w := by
  unfold wpOp
  rw [h]
  have hy : yielded ops a.tmps j = some b := by
    unfold dst at hd
    unfold yielded
    cases hj : ops[j]? with
    | none => rw [hj] at hd; cases hd
    | some x =>
      rw [hj] at hd
      have hd : x.dst = some d := hd
      cases ht : a.tmps[d]? with
      | none => rw [ht] at hv; cases hv
      | some y =>
        rw [ht] at hv
        have hv : y = .bool b := hv
        simp [hd, ht, hv]
  have hw : Region.wanted o (yielded ops a.tmps) = true := by simp [Region.wanted, hg, hy]
  simp only [hw, if_true]
  exact .inl hK
/-- What operation i waits for at once. -/
def depsOf (ops : Array Oper) (i : Nat) : List Nat := match ops[i]? with
  | none => []
  | some o => (o.after.toList.filter (fun e => Region.binds .any e)).map (·.on)
/-- What operation i waits for, at once or by others. -/
inductive Reach (ops : Array Oper) : Nat → Nat → Prop where
  | one {i j : Nat} : j ∈ depsOf ops i → Reach ops i j
  | more {i j k : Nat} : j ∈ depsOf ops i → Reach ops j k → Reach ops i k
/-- The same as a table of bits. -/
def maskAt (ops : Array Oper) (t : List Nat) (i : Nat) : Nat := (depsOf ops i).foldl (fun m j => m ||| t.getD j 0 ||| 2 ^ j) 0
def masks (ops : Array Oper) : Nat → List Nat
  | 0 => []
  | n + 1 => masks ops n ++ [maskAt ops (masks ops n) n]
def ancB (ops : Array Oper) (i j : Nat) : Bool := ((masks ops ops.size).getD i 0).testBit j
theorem mask_fold {ops : Array Oper} {t : List Nat} {i : Nat} (ht : ∀ j k, (t.getD j 0).testBit k = true → Reach ops j k) : ∀ (l : List Nat) (m : Nat), (∀ j ∈ l, j ∈ depsOf ops i) → (∀ k, m.testBit k = true → Reach ops i k) → ∀ k, (l.foldl (fun m j => m ||| t.getD j 0 ||| 2 ^ j) m).testBit k = true → Reach ops i k
  | [], m, _, hm, k, h => hm k h
  | j :: l, m, hl, hm, k, h => by
    refine mask_fold ht l _ (fun x hx => hl x (by simp [hx])) (fun x hx => ?_) k h
    rw [Nat.testBit_or, Nat.testBit_or, Bool.or_eq_true, Bool.or_eq_true] at hx
    rcases hx with (hx | hx) | hx
    · exact hm x hx
    · exact .more (hl j (by simp)) (ht j x hx)
    · rw [Nat.testBit_two_pow] at hx
      have hx : j = x := of_decide_eq_true hx
      subst hx
      exact .one (hl j (by simp))
theorem masks_reach (ops : Array Oper) : ∀ n j k, ((masks ops n).getD j 0).testBit k = true → Reach ops j k
  | 0, j, k, h => by simp [masks] at h
  | n + 1, j, k, h => by
    have hlen : ∀ n, (masks ops n).length = n := by
      intro n
      induction n with
      | zero => rfl
      | succ n ih => simp [masks, ih]
    unfold masks at h
    rcases Nat.lt_trichotomy j n with hj | hj | hj
    · rw [List.getD_eq_getElem?_getD, List.getElem?_append_left (by rw [hlen]; exact hj), ← List.getD_eq_getElem?_getD] at h
      exact masks_reach ops n j k h
    · subst hj
      rw [List.getD_eq_getElem?_getD, List.getElem?_append_right (by rw [hlen]; exact Nat.le_refl _), hlen, Nat.sub_self] at h
      exact mask_fold (masks_reach ops j) _ 0 (fun _ h => h) (fun k h => by simp at h) k h
    · rw [List.getD_eq_getElem?_getD, List.getElem?_append_right (by rw [hlen]; omega), hlen, List.getElem?_eq_none (by simp; omega)] at h
      simp at h
def Closed (ops : Array Oper) (L : Nat → Bool) : Prop := ∀ i, i < ops.size → L i = true → ∀ j ∈ depsOf ops i, L j = true
theorem deps_lt {i j : Nat} (h : j ∈ depsOf ops i) : i < ops.size := by
  unfold depsOf at h
  cases ho : ops[i]? with
  | none => rw [ho] at h; cases h
  | some o => exact (Array.getElem?_eq_some_iff.1 ho).1
theorem reach_listed {L : Nat → Bool} (hc : Closed ops L) {i j : Nat} (h : Reach ops i j) : (∀ k ∈ depsOf ops i, L k = true) → L j = true := by
  induction h with
  | one h => exact fun hi => hi _ h
  | more h hr ih =>
    intro hi
    refine ih fun k hk => hc _ (deps_lt hk) (hi _ h) k hk
/-- What holds of an activation when the operations of L are over: each left its value V, all else is as it was. -/
structure Held (ops : Array Oper) (V : Nat → Value) (a0 : Act) (L : Nat → Bool) (a : Act) : Prop where
  sz : a.tmps.size = a0.tmps.size
  df : a.defers = a0.defers
  old : ∀ t, (∀ i, i < ops.size → dst ops i = some t → L i = false) → a.eval (.tmp t) = a0.eval (.tmp t)
  val : ∀ i, i < ops.size → L i = true → ∀ d, dst ops i = some d → a.eval (.tmp d) = V i
theorem Held.put {V : Nat → Value} {a0 a : Act} {L : Nat → Bool} (h : Held ops V a0 L a) {i : Nat} (hi : i < ops.size) (hd : ∀ d, dst ops i = some d → d < a0.tmps.size)
    (hinj : ∀ j, j < ops.size → ∀ d, dst ops i = some d → dst ops j = some d → j = i) : Held ops V a0 (mark L i) (a.put (dst ops i) (V i)) := by
  cases hdi : dst ops i with
  | none =>
    refine ⟨h.sz, h.df, fun t ht => h.old t fun j hj hjt => ?_, fun j hj hL d hjd => ?_⟩
    · have := ht j hj hjt
      by_cases e : j = i
      · subst e; rw [hdi] at hjt; cases hjt
      · rwa [mark_ne e] at this
    · by_cases e : j = i
      · subst e; rw [hdi] at hjd; cases hjd
      · rw [mark_ne e] at hL; exact h.val j hj hL d hjd
  | some d =>
    refine ⟨by simp [Act.put, h.sz], h.df, fun t ht => ?_, fun j hj hL x hjx => ?_⟩
    · have hdt : d ≠ t := by
        rintro rfl
        have := ht i hi hdi
        rw [mark_self] at this
        cases this
      rw [eval_other hdt]
      refine h.old t fun j hj hjt => ?_
      have := ht j hj hjt
      by_cases e : j = i
      · subst e; rw [mark_self] at this; cases this
      · rwa [mark_ne e] at this
    · by_cases e : j = i
      · subst e
        rw [hdi] at hjx
        cases hjx
        exact eval_same (by rw [h.sz]; exact hd _ hdi)
      · rw [mark_ne e] at hL
        rw [eval_other (fun e2 => e (hinj j hj d hdi (by rw [hjx, e2])))]
        exact h.val j hj hL x hjx
theorem held_eq {V : Nat → Value} {a0 a b : Act} {L : Nat → Bool} (hL : ∀ i, i < ops.size → L i = true) {L' : Nat → Bool} (hL' : ∀ i, i < ops.size → L' i = true) (h : Held ops V a0 L a) (k : Held ops V a0 L' b) : a = b := by
  have ht : a.tmps = b.tmps := by
    apply Array.ext (h.sz.trans k.sz.symm)
    intro t h1 h2
    have e : a.eval (.tmp t) = b.eval (.tmp t) := by
      by_cases hx : ∃ i, i < ops.size ∧ dst ops i = some t
      · obtain ⟨i, hi, hd⟩ := hx
        rw [h.val i hi (hL i hi) t hd, k.val i hi (hL' i hi) t hd]
      · rw [h.old t (fun i hi hd => absurd ⟨i, hi, hd⟩ hx), k.old t (fun i hi hd => absurd ⟨i, hi, hd⟩ hx)]
    simpa [Act.eval, h1, h2] using e
  obtain ⟨t1, d1⟩ := a
  obtain ⟨t2, d2⟩ := b
  have hd := h.df.trans k.df.symm
  simp only at ht hd
  rw [ht, hd]
def okB (ops : Array Oper) (m : Nat) : Bool :=
  (List.range ops.size).all (fun i => (match dst ops i with
    | none => true
    | some d => decide (d < m) && (List.range i).all (fun j => !decide (dst ops j = some d))) && (depsOf ops i).all (fun j => decide (j < i)))
/-- All operations' values put in one after the other. -/
def after (ops : Array Oper) (V : Nat → Value) (a0 : Act) : Nat → Act
  | 0 => a0
  | n + 1 => (after ops V a0 n).put (dst ops n) (V n)
/-- **A region that draws its order**: S says what holds of the world, by which operations are over. -/
theorem region_staged {G : Type} {id : Nat} {a0 : Act} {w0 : World} (hm : P.follows .mixedOrders = true) (V : G → Nat → Value) (S : G → (Nat → Bool) → World → Prop) (g0 : G) (n m : Nat) (hn : ops.size = n) (hok : okB ops m = true) (hsz : a0.tmps.size = m)
    (hs0 : S g0 (fun _ => false) w0.drew)
    (step : ∀ i, i < n → ∀ g L a w, S g L w → L i = false → (∀ j, ancB ops i j = true → L j = true) → (∀ j, j < n → ancB ops j i = true → L j = false) → (∀ t, (∀ j, j < n → dst ops j ≠ some t) → a.eval (.tmp t) = a0.eval (.tmp t)) →
      (∀ j d, ancB ops i j = true → dst ops j = some d → a.eval (.tmp d) = V g j) → ∀ K : Act → World → Prop, (∀ g' w', (∀ j, j < n → L j = true → V g' j = V g j) → S g' (mark L i) w' → K (a.put (dst ops i) (V g' i)) w') → wpOp P ops Q i K a w)
    (fin : ∀ g L w, (∀ i, i < n → L i = true) → S g L w → Q .normal (after ops (V g) a0 n) w) : (Code.region id ops true).wp P Q a0 w0 := by
  subst hn
  have hall : ∀ i, i < ops.size → (∀ d, dst ops i = some d → d < m ∧ ∀ j, j < i → dst ops j ≠ some d) ∧ ∀ j ∈ depsOf ops i, j < i := by
    intro i hi
    have h := List.all_eq_true.1 hok i (List.mem_range.2 hi)
    rw [Bool.and_eq_true] at h
    refine ⟨fun d hd => ?_, fun j hj => of_decide_eq_true (List.all_eq_true.1 h.2 j hj)⟩
    have h1 := h.1
    rw [hd] at h1
    simp only [Bool.and_eq_true] at h1
    refine ⟨of_decide_eq_true h1.1, fun j hj e => ?_⟩
    have := List.all_eq_true.1 h1.2 j (List.mem_range.2 hj)
    simp [e] at this
  have hlt : ∀ i, i < ops.size → ∀ d, dst ops i = some d → d < a0.tmps.size := fun i hi d hd => by rw [hsz]; exact ((hall i hi).1 d hd).1
  have hinj : ∀ i, i < ops.size → ∀ j, j < ops.size → ∀ d, dst ops i = some d → dst ops j = some d → j = i := by
    intro i hi j hj d h1 h2
    rcases Nat.lt_trichotomy i j with h | h | h
    · exact absurd h1 (((hall j hj).1 d h2).2 i h)
    · exact h.symm
    · exact absurd h2 (((hall i hi).1 d h1).2 j h)
  have hafter : ∀ g k, k ≤ ops.size → Held ops (V g) a0 (fun i => decide (i < k)) (after ops (V g) a0 k) := by
    intro g k
    induction k with
    | zero => exact fun _ => ⟨rfl, rfl, fun _ _ => rfl, fun i hi h => by simp at h⟩
    | succ k ih =>
      intro hk
      have h := (ih (by omega)).put (i := k) (by omega) (hlt k (by omega)) (hinj k (by omega))
      have e : mark (fun i => decide (i < k)) k = fun i => decide (i < k + 1) := by
        funext i
        unfold mark
        by_cases e : i = k
        · subst e; simp
        · rw [if_neg e]
          have : (i < k) ↔ (i < k + 1) := by omega
          simp [this]
      rw [e] at h
      exact h
  refine wp_region_any hm ?_
  refine any_inv (fun L a w => ∃ g, Held ops (V g) a0 L a ∧ S g L w ∧ Closed ops L) ?_ ?_ ?_ ops.size _ a0 _ (by simp) ?_ ?_
  · rintro L a w i ⟨g, hh, hs, hc⟩ hi hL hr K hK
    have hdl : ∀ j ∈ depsOf ops i, L j = true := by
      intro j hj
      unfold depsOf at hj
      cases ho : ops[i]? with
      | none => rw [ho] at hj; cases hj
      | some o =>
        rw [ho] at hj
        obtain ⟨e, he, rfl⟩ := List.mem_map.1 hj
        obtain ⟨he1, he2⟩ := List.mem_filter.1 he
        exact hr o ho e (by simpa using he1) he2
    have hanc : ∀ j, ancB ops i j = true → L j = true := fun j hj => reach_listed hc (masks_reach ops _ i j hj) hdl
    refine step i hi g L a w hs hL hanc (fun j hj1 hj => ?_) (fun t ht => hh.old t fun j hj hjt => absurd hjt (ht j hj)) (fun j d hj hd => ?_) K fun g' w' hag hw' => hK _ _ ⟨g', Held.put ⟨hh.sz, hh.df, hh.old, fun j hj hLj d hd => (hh.val j hj hLj d hd).trans (hag j hj hLj).symm⟩ hi (hlt i hi) (hinj i hi), hw', ?_⟩
    · cases h : L j with
      | false => rfl
      | true =>
        have := reach_listed hc (masks_reach ops _ j i hj) (fun k hk => hc j hj1 h k hk)
        rw [hL] at this
        cases this
    · refine hh.val j ?_ (hanc j hj) d hd
      unfold dst at hd
      cases ho : ops[j]? with
      | none => rw [ho] at hd; cases hd
      | some o => exact (Array.getElem?_eq_some_iff.1 ho).1
    · intro k hk hkL j hj
      by_cases e : k = i
      · subst e
        by_cases e2 : j = k
        · subst e2; exact mark_self
        · rw [mark_ne e2]; exact hdl j hj
      · rw [mark_ne e] at hkL
        have := hc k hk hkL j hj
        by_cases e2 : j = i
        · subst e2; exact mark_self
        · rw [mark_ne e2]; exact this
  · rintro L a w ⟨g, hh, hs, _⟩ hall'
    rw [held_eq hall' (fun i hi => by simpa using hi) hh (hafter g ops.size (Nat.le_refl _))]
    exact fin g L w hall' hs
  · rintro L ⟨i, hi, hL⟩
    have key : ∀ m i, i ≤ m → i < ops.size → L i = false → ∃ i, i < ops.size ∧ L i = false ∧ ∀ o, ops[i]? = some o → ∀ e ∈ o.after, Region.binds .any e = true → L e.on = true := by
      intro m
      induction m with
      | zero =>
        intro i hm hi hL
        refine ⟨i, hi, hL, fun o ho e he hb => ?_⟩
        have : e.on ∈ depsOf ops i := by
          unfold depsOf
          rw [ho]
          exact List.mem_map.2 ⟨e, List.mem_filter.2 ⟨by simpa using he, hb⟩, rfl⟩
        have := (hall i hi).2 _ this
        omega
      | succ m ih =>
        intro i hm hi hL
        by_cases h : ∀ o, ops[i]? = some o → ∀ e ∈ o.after, Region.binds .any e = true → L e.on = true
        · exact ⟨i, hi, hL, h⟩
        · obtain ⟨o, ho⟩ := Classical.not_forall.1 h
          obtain ⟨ho, h2⟩ := Classical.not_imp.1 ho
          obtain ⟨e, h3⟩ := Classical.not_forall.1 h2
          obtain ⟨he, h4⟩ := Classical.not_imp.1 h3
          obtain ⟨hb, h5⟩ := Classical.not_imp.1 h4
          have hd : e.on ∈ depsOf ops i := by
            unfold depsOf
            rw [ho]
            exact List.mem_map.2 ⟨e, List.mem_filter.2 ⟨by simpa using he, hb⟩, rfl⟩
          have hlt := (hall i hi).2 _ hd
          exact ih e.on (by omega) (by omega) (by simpa using h5)
    exact key i i (Nat.le_refl _) hi hL
  · exact Nat.le_trans (List.length_filter_le _ _) (by simp)
  · have e : (fun k => (Array.replicate ops.size false).getD k false) = fun _ => false := by
      funext k
      unfold Array.getD
      split <;> simp
    rw [e]
    exact ⟨g0, ⟨rfl, rfl, fun _ _ => rfl, fun i hi h => by cases h⟩, hs0, fun i hi h => by cases h⟩
def freeB (ops : Array Oper) (n t : Nat) : Bool := (List.range n).all (fun j => !decide (dst ops j = some t))
/-- Values put into slots one after the other. -/
def putAll : List (Option Nat) → List Value → Act → Act
  | d :: D, v :: V, a => putAll D V (a.put d v)
  | _, _, a => a
theorem putAll_map (f : Nat → Option Nat) (g : Nat → Value) : ∀ (l : List Nat) (a : Act), putAll (l.map f) (l.map g) a = l.foldl (fun a i => a.put (f i) (g i)) a
  | [], a => rfl
  | i :: l, a => putAll_map f g l _
theorem after_fold (V : Nat → Value) (a0 : Act) : ∀ n, after ops V a0 n = (List.range n).foldl (fun a i => a.put (dst ops i) (V i)) a0
  | 0 => rfl
  | n + 1 => by
    rw [List.range_succ, List.foldl_append]
    unfold after
    rw [after_fold V a0 n]
    rfl
theorem map_getD (VL : List Value) : (List.range VL.length).map (fun i => VL.getD i undef) = VL := by
  apply List.ext_getElem
  · simp
  · intro i h1 h2
    simp at h1
    simp [h1]
/-- The same, its slots and values as lists. -/
theorem region_lists {G : Type} {id : Nat} {a0 : Act} {w0 : World} (hm : P.follows .mixedOrders = true) (D : List (Option Nat)) (VL : G → List Value) (S : G → (Nat → Bool) → World → Prop) (g0 : G) (n m : Nat) (hn : ops.size = n) (hD : (List.range n).map (dst ops) = D) (hV : ∀ g, (VL g).length = n) (hok : okB ops m = true) (hsz : a0.tmps.size = m)
    (hs0 : S g0 (fun _ => false) w0.drew)
    (step : ∀ i, i < n → ∀ g L a w, S g L w → L i = false → (∀ j, ancB ops i j = true → L j = true) → (∀ j, decide (j < n) = true → ancB ops j i = true → L j = false) → (∀ t, freeB ops n t = true → a.tmps[t]?.getD undef = a0.eval (.tmp t)) →
      (∀ j d, ancB ops i j = true → dst ops j = some d → a.tmps[d]?.getD undef = (VL g).getD j undef) → ∀ K : Act → World → Prop, (∀ g' w', (∀ j, j < n → L j = true → (VL g').getD j undef = (VL g).getD j undef) → S g' (mark L i) w' → K (a.put (D.getD i none) ((VL g').getD i undef)) w') → wpOp P ops Q i K a w)
    (fin : ∀ g L w, (∀ i, decide (i < n) = true → L i = true) → S g L w → Q .normal (putAll D (VL g) a0) w) : (Code.region id ops true).wp P Q a0 w0 := by
  subst hD
  refine region_staged hm (fun g i => (VL g).getD i undef) S g0 n m hn hok hsz hs0 (fun i hi g L a w hs hL h1 h2 h3 h4 K hK => ?_) (fun g L w hall hs => ?_)
  · refine step i hi g L a w hs hL h1 (fun j hj => h2 j (of_decide_eq_true hj)) (fun t ht => ?_) (fun j d hj hd => (eval_tmp a d).trans (h4 j d hj hd)) K (fun g' w' hag hw' => ?_)
    · refine (eval_tmp a t).trans (h3 t fun j hj e => ?_)
      have := List.all_eq_true.1 ht j (List.mem_range.2 hj)
      simp [e] at this
    · have e : ((List.range n).map (dst ops)).getD i none = dst ops i := by simp [hi]
      rw [e]
      exact hK g' w' hag hw'
  · have e : after ops (fun i => (VL g).getD i undef) a0 n = putAll ((List.range n).map (dst ops)) (VL g) a0 := by
      rw [after_fold]
      conv => rhs; rw [← map_getD (VL g), hV]
      rw [putAll_map]
    rw [e]
    exact fin g L w (fun i hi => hall i (of_decide_eq_true hi)) hs
end
end Go.Proofs.Ytnakmajnljpblaa.Rgn

namespace Go.Proofs.Ytnakmajnljpblaa.FreF
open Go.ChangeShapes Go.WideShapes Go.ChangeAt Go.RowKit
open LawFrame PlainT BlkW LayS LayA CelS CelM CelP CelV CelN CelO CelI CelY CelQ LabD LabR LabP LabS LabT FreP FreQ FreV FreC FreI FreA FreB FreS FreW FreT
set_option linter.unusedVariables false
set_option maxHeartbeats 1000000
theorem pop_plan2 {lo hi b rb g y : Nat} {yy : Int} {A : Int → List Int} {K : Int} {T : Nat → Int} {L : Nat → List Nat} {N : List Int} {held : List Nat} {p : Nat → Th} {t st c : Nat} {x n : Int} (h7 : A 7 = hds T L) (h8 : A 8 = N) (hI : Inv K T L N held p) (hK : K ≤ 1000000) (ht : t ≤ 3) (hp : p t = .pop g st c x n) (hst : st ≤ 2) (hyy : st = 2 → yy = n + 1) (hg : g < lo ∨ hi ≤ g) (hy : y < lo ∨ hi ≤ y) :
    ∃ (A' : Int → List Int) (k1 k2 k3 k4 k5 : Int) (d : Bool) (st' : Nat) (x' n' bl' yy' : Int) (T' : Nat → Int) (L' : Nat → List Nat) (held' : List Nat) (p' : Nat → Th),
      (∀ B W, Duo lo hi W b rb hq A B → Mem W g TP1 (oBox st c x n (-1)) → Calls Try.prog 20 #[.pointer (some ⟨g, 0, none⟩), .pointer (some ⟨b, 0, none⟩)] W fun e w' => e = .returned (accV k1 k2 k3 k4 k5 d) ∧ Duo lo hi w' b rb hq A' B ∧ Mem w' g TP1 (oBox st' c x' n' bl') ∧ Fr (PG lo hi g) W w') ∧
      (∀ W, Duo lo hi W b rb hq A' A → Mem W y TQ1 (roBox st c x yy (-1)) → Calls Try.prog 21 #[.pointer (some ⟨y, 0, none⟩), .pointer (some ⟨rb, 0, none⟩)] W fun e w' => e = .returned (accV k1 k2 k3 k4 k5 d) ∧ Duo lo hi w' b rb hq A' A' ∧ Mem w' y TQ1 (roBox st' c x' yy' bl') ∧ Fr (PG lo hi y) W w') ∧
      (st' = 2 → yy' = n' + 1) ∧ A' 7 = hds T' L' ∧ A' 8 = N ∧ FreS.Rest A A' ∧ Inv (K + 1) T' L' N held' p' ∧ PopOut K T L N held p t g c k1 k2 k3 d st' x' n' bl' T' L' held' p' := by
  have hok := hI.ok t ht
  rw [hp] at hok
  obtain ⟨hc, hs⟩ := hok
  have hl7 : c < (A 7).length := by rw [h7, hds_len]; omega
  have hz7 : (A 7).getD c 0 = T c * 65536 + hd (L c) := by rw [h7, hds_at hc]
  have hT := hI.T0 c hc
  have hd6 := hI.top hc
  have hsame : upd A 7 c (T c * 65536 + hd (L c)) = A := upd_same hl7 hz7
  have hR : FreS.Rest A A := ⟨rfl, rfl, rfl⟩
  obtain ⟨z, hz⟩ : ∃ z, T c * 65536 + hd (L c) = z := ⟨_, rfl⟩
  rw [hz] at hz7 hsame
  have z0 : 0 ≤ z ∧ z ≤ 18446744073709551615 := by omega
  have hzm : z % 65536 = hd (L c) := by omega
  rcases Nat.lt_or_ge st 1 with h0 | h0
  · obtain rfl : st = 0 := by omega
    by_cases htop : 1 ≤ hd (L c)
    · refine ⟨A, 1, 7, c, z, z, true, 1, z, n, -1, yy, T, L, held, _, fun B W hW hM => ?_, fun W hW hM => ?_, (fun h => by omega), h7, h8, hR, (hz ▸ hI.load ht hp htop g n).more (by omega), .inl ⟨by omega, rfl, rfl, rfl, rfl, rfl, by omega⟩⟩
      · exact p_load_some hW hg x n (-1) c hl7 z hz7 z0.1 z0.2 (by simp; omega) hM
      · exact q_load_some hW hy x yy (-1) c hl7 z hz7 z0.1 z0.2 (by simp; omega) hM
    · have hnil := hd_nil (by omega : hd (L c) < 1)
      have hi0 : Inv K T L N held (up p t .idle) := hI.turn ht (by rw [hp]; rfl) trivial
      refine ⟨A, 1, 7, c, z, z, true, 3, z, n, -1, yy, T, L, held, _, fun B W hW hM => ?_, fun W hW hM => ?_, (fun h => by omega), h7, h8, hR, hi0.more (by omega), .inr (.inl ⟨rfl, rfl, hnil, rfl, rfl, rfl, rfl, by omega⟩)⟩
      · exact p_load_none hW hg x n (-1) c hl7 z hz7 z0.1 z0.2 (by simp; omega) hM
      · exact q_load_none hW hy x yy (-1) c hl7 z hz7 z0.1 z0.2 (by simp; omega) hM
  · have hseen : Seen T L c x := by
      rcases hs with h | ⟨_, h, _⟩ | ⟨_, h, _⟩
      · omega
      · exact h
      · exact h
    have hx0 : 0 ≤ x ∧ x ≤ 18446744073709551615 := by
      obtain ⟨a, q, hx, q0, q6, a0, aT, _⟩ := hseen
      omega
    rcases Nat.lt_or_ge st 2 with h1 | h1
    · obtain rfl : st = 1 := by omega
      obtain ⟨j, hj6, hj, y0, y6, hI'⟩ := hI.next ht hp g
      have hl8 : j < (A 8).length := by rw [h8, hI.len]; omega
      have hy8 : (A 8).getD j 0 = N.getD j 0 := by rw [h8]
      refine ⟨A, 1, 8, j, N.getD j 0, N.getD j 0, true, 2, x, N.getD j 0 - 1, -1, N.getD j 0, T, L, held, _, fun B W hW hM => ?_, fun W hW hM => ?_, (fun _ => by omega), h7, h8, hR, hI'.more (by omega), .inl ⟨by omega, rfl, rfl, rfl, rfl, rfl, by omega⟩⟩
      · exact p_next hW hg c x n (-1) hx0.1 hx0.2 j hj hl8 _ hy8 y0 (by omega) hM
      · exact q_next hW hy c x yy (-1) hx0.1 hx0.2 j hj hl8 _ hy8 y0 (by omega) hM
    · obtain rfl : st = 2 := by omega
      obtain rfl := hyy rfl
      have hn : 0 ≤ n + 1 ∧ n + 1 ≤ 6 := by
        rcases hs with h | ⟨h, _⟩ | ⟨_, _, _, h3, h4, _⟩
        · omega
        · omega
        · exact ⟨h3, h4⟩
      by_cases he : z = x
      · subst he
        obtain ⟨l, blk, hl, hb, hnl, hI'⟩ := hI.take ht hp hz.symm
        have hv : (z / 65536 + 1) % 281474976710656 * 65536 + (n + 1) = (T c + 1) * 65536 + hd l := by
          rw [← hnl]
          have : z / 65536 = T c := by omega
          rw [this]
          omega
        refine ⟨upd A 7 c ((T c + 1) * 65536 + hd l), 3, 7, c, z, (T c + 1) * 65536 + hd l, true, 3, z, n, blk, n + 1, _, _, _, _, fun B W hW hM => ?_, fun W hW hM => ?_, (fun h => by omega), ?_, by rw [upd_ne (by decide)]; exact h8, rest_upd (.inl rfl), hI', .inr (.inr ⟨rfl, l, blk, hl, rfl, rfl, rfl, rfl, rfl, rfl, rfl, rfl, rfl⟩)⟩
        · have := p_take_yes hW hg z n (-1) hx0.1 hx0.2 (by omega) (by omega) c hl7 hz7 _ hv hM
          rw [hb] at this
          exact this
        · have := q_take_yes hW hy z (n + 1) (-1) hx0.1 hx0.2 n (by omega) (by omega) (by omega) c hl7 hz7 _ hv hM
          rw [hb] at this
          exact this
        · rw [← hds_up hc, ← h7]
          simp [upd]
      · have hI' : Inv K T L N held (up p t (.pop g 0 c x n)) := hI.turn ht (by rw [hp]; rfl) ⟨hc, .inl (.inl rfl)⟩
        refine ⟨A, 3, 7, c, z, z, false, 0, x, n, -1, n + 1, T, L, held, _, fun B W hW hM => ?_, fun W hW hM => ?_, (fun h => by omega), h7, h8, hR, hI'.more (by omega), .inl ⟨by omega, rfl, rfl, rfl, rfl, rfl, by simp⟩⟩
        · have := p_take_no hW hg x n (-1) hx0.1 hx0.2 (by omega) (by omega) c hl7 z hz7 _ rfl he hM
          rw [hsame] at this
          exact this
        · have := q_take_no hW hy x (n + 1) (-1) hx0.1 hx0.2 n (by omega) (by omega) (by omega) c hl7 z hz7 _ rfl he hM
          rw [hsame] at this
          exact this

/-! ### The table of the threads' machines. -/
abbrev TM : TypeId := 40
def mv : Th → Nat → Nat → Value
  | .idle, _, _ => .pointer none
  | .pop g _ _ _ _, r, j => if j = 0 then .pointer (some ⟨g, 0, none⟩) else if j = 2 then .pointer (some ⟨r, 0, none⟩) else .pointer none
  | .push g _ _ _ _, r, j => if j = 1 then .pointer (some ⟨g, 0, none⟩) else if j = 3 then .pointer (some ⟨r, 0, none⟩) else .pointer none
def tb (p : Nat → Th) (rg : Nat → Nat) (i : Nat) : Value := mv (p (i / 4)) (rg (i / 4)) (i % 4)
abbrev A16 (f : Nat → Value) : Array Value := #[f 0, f 1, f 2, f 3, f 4, f 5, f 6, f 7, f 8, f 9, f 10, f 11, f 12, f 13, f 14, f 15]
theorem sixteen {i : Nat} (h : i ≤ 15) : i = 0 ∨ i = 1 ∨ i = 2 ∨ i = 3 ∨ i = 4 ∨ i = 5 ∨ i = 6 ∨ i = 7 ∨ i = 8 ∨ i = 9 ∨ i = 10 ∨ i = 11 ∨ i = 12 ∨ i = 13 ∨ i = 14 ∨ i = 15 := by omega
theorem A16_at {w : World} {g : Nat} {f : Nat → Value} (h : Mem w g TM (A16 f)) {i : Nat} (hi : i ≤ 15) : w.cell? ⟨g, i, none⟩ = some (f i) := by
  rcases sixteen hi with rfl | rfl | rfl | rfl | rfl | rfl | rfl | rfl | rfl | rfl | rfl | rfl | rfl | rfl | rfl | rfl <;> exact h.cell _
theorem A16_set (f : Nat → Value) {i : Nat} (hi : i ≤ 15) (v : Value) : (A16 f).setIfInBounds i v = A16 (up f i v) := by
  rcases sixteen hi with rfl | rfl | rfl | rfl | rfl | rfl | rfl | rfl | rfl | rfl | rfl | rfl | rfl | rfl | rfl | rfl <;> simp [A16, up]
theorem A16_congr {f f' : Nat → Value} (h : ∀ i, i ≤ 15 → f i = f' i) : A16 f = A16 f' := by
  simp only [A16, h 0 (by omega), h 1 (by omega), h 2 (by omega), h 3 (by omega), h 4 (by omega), h 5 (by omega), h 6 (by omega), h 7 (by omega), h 8 (by omega), h 9 (by omega), h 10 (by omega), h 11 (by omega), h 12 (by omega), h 13 (by omega), h 14 (by omega), h 15 (by omega)]
theorem am_set {w : World} {g : Nat} {f : Nat → Value} (h : Mem w g TM (A16 f)) {i : Nat} (hi : i ≤ 15) (v : Value) : Mem (w.setCell ⟨g, i, none⟩ v) g TM (A16 (up f i v)) := by
  rw [← A16_set f hi]
  exact h.set_ i v
section
variable {p : Nat → Th} {rg : Nat → Nat} {t g r st c bk : Nat} {x n : Int} {o : Th} {v : Value}
theorem tb_at {j : Nat} (hj : j < 4) : tb p rg (t * 4 + j) = mv (p t) (rg t) j := by
  unfold tb
  rw [show (t * 4 + j) / 4 = t by omega, show (t * 4 + j) % 4 = j by omega]
theorem tb_at0 : tb p rg (t * 4) = mv (p t) (rg t) 0 := tb_at (j := 0) (by decide)
theorem tb_far {i : Nat} (h : i / 4 ≠ t) : tb (up p t o) (up rg t r) i = tb p rg i := by
  unfold tb
  rw [up_ne h, up_ne h]
theorem tb_near {i : Nat} (h : i / 4 = t) : tb (up p t o) (up rg t r) i = mv o r (i % 4) := by
  unfold tb
  rw [h, up_at, up_at]
theorem tb_pop (hp : p t = .idle) (i : Nat) : up (up (tb p rg) (t * 4) (.pointer (some ⟨g, 0, none⟩))) (t * 4 + 2) (.pointer (some ⟨r, 0, none⟩)) i = tb (up p t (.pop g st c x n)) (up rg t r) i := by
  by_cases h : i / 4 = t
  · rw [tb_near h]
    have : i = t * 4 ∨ i = t * 4 + 1 ∨ i = t * 4 + 2 ∨ i = t * 4 + 3 := by omega
    rcases this with rfl | rfl | rfl | rfl
    · rw [up_ne (by omega), up_at, show t * 4 % 4 = 0 by omega]; rfl
    · rw [up_ne (by omega), up_ne (by omega), show (t * 4 + 1) % 4 = 1 by omega, tb_at (by decide), hp]; rfl
    · rw [up_at, show (t * 4 + 2) % 4 = 2 by omega]; rfl
    · rw [up_ne (by omega), up_ne (by omega), show (t * 4 + 3) % 4 = 3 by omega, tb_at (by decide), hp]; rfl
  · rw [tb_far h, up_ne (by omega), up_ne (by omega)]
theorem tb_push (hp : p t = .idle) (i : Nat) : up (up (tb p rg) (t * 4 + 1) (.pointer (some ⟨g, 0, none⟩))) (t * 4 + 3) (.pointer (some ⟨r, 0, none⟩)) i = tb (up p t (.push g st c bk x)) (up rg t r) i := by
  by_cases h : i / 4 = t
  · rw [tb_near h]
    have : i = t * 4 ∨ i = t * 4 + 1 ∨ i = t * 4 + 2 ∨ i = t * 4 + 3 := by omega
    rcases this with rfl | rfl | rfl | rfl
    · rw [up_ne (by omega), up_ne (by omega), show t * 4 % 4 = 0 by omega, tb_at0, hp]; rfl
    · rw [up_ne (by omega), up_at, show (t * 4 + 1) % 4 = 1 by omega]; rfl
    · rw [up_ne (by omega), up_ne (by omega), show (t * 4 + 2) % 4 = 2 by omega, tb_at (by decide), hp]; rfl
    · rw [up_at, show (t * 4 + 3) % 4 = 3 by omega]; rfl
  · rw [tb_far h, up_ne (by omega), up_ne (by omega)]
theorem tb_clear (i : Nat) : up (up (up (up (tb p rg) (t * 4) (.pointer none)) (t * 4 + 1) (.pointer none)) (t * 4 + 2) (.pointer none)) (t * 4 + 3) (.pointer none) i = tb (up p t .idle) (up rg t (rg t)) i := by
  by_cases h : i / 4 = t
  · rw [tb_near h]
    have : i = t * 4 ∨ i = t * 4 + 1 ∨ i = t * 4 + 2 ∨ i = t * 4 + 3 := by omega
    rcases this with rfl | rfl | rfl | rfl
    · rw [up_ne (by omega), up_ne (by omega), up_ne (by omega), up_at]; rfl
    · rw [up_ne (by omega), up_ne (by omega), up_at]; rfl
    · rw [up_ne (by omega), up_at]; rfl
    · rw [up_at]; rfl
  · rw [tb_far h, up_ne (by omega), up_ne (by omega), up_ne (by omega), up_ne (by omega)]
theorem tb_go {st' : Nat} {x' n' : Int} (hp : p t = .pop g st c x n) (i : Nat) : tb p rg i = tb (up p t (.pop g st' c x' n')) rg i := by
  have e : rg = up rg t (rg t) := (up_same rfl).symm
  by_cases h : i / 4 = t
  · conv => rhs; rw [e]
    rw [tb_near h]
    unfold tb
    rw [h, hp]
    rfl
  · conv => rhs; rw [e]
    rw [tb_far h]
theorem tb_go2 {st' : Nat} {x' : Int} (hp : p t = .push g st c bk x) (i : Nat) : tb p rg i = tb (up p t (.push g st' c bk x')) rg i := by
  have e : rg = up rg t (rg t) := (up_same rfl).symm
  by_cases h : i / 4 = t
  · conv => rhs; rw [e]
    rw [tb_near h]
    unfold tb
    rw [h, hp]
    rfl
  · conv => rhs; rw [e]
    rw [tb_far h]
end
/-! ### The state. -/
/-- The reference's box of a thread. -/
def rbox (w : World) : Th → Nat → Prop
  | .idle, _ => True
  | .pop _ st c x n, r => ∃ yy : Int, (st = 2 → yy = n + 1) ∧ Mem w r TQ1 (roBox st c x yy (-1))
  | .push _ st c b x, r => Mem w r TQ2 (ruBox st c b x)
structure KB (w0 : World) (lo hi b rb gp gm : Nat) (K : Int) (T : Nat → Int) (L : Nat → List Nat) (N : List Int) (held : List Nat) (p : Nat → Th) (rg : Nat → Nat) (W : World) : Prop where
  core : Core w0 lo hi b rb true (gm + 1) K T L N held p W
  pm : Mem W gp TP #[.pointer (some ⟨b, 0, none⟩), .pointer (some ⟨rb, 0, none⟩)]
  rx : ∀ t, t ≤ 3 → rbox W (p t) (rg t)
  rb2 : ∀ t, t ≤ 3 → gOf (p t) ≠ none → gm < rg t
  rdi : ∀ t u, t ≤ 3 → u ≤ 3 → t ≠ u → gOf (p t) ≠ none → gOf (p u) ≠ none → rg t ≠ rg u
  lv : ∀ t, t ≤ 3 → ∀ g st c x n, p t = .pop g st c x n → st ≤ 2
  od : w0.heap.size ≤ lo ∧ lo ≤ hi ∧ hi ≤ gp ∧ gp < gm ∧ gm < W.heap.size
  ln : (held.length : Int) ≤ K
/-- What a step of both machines may turn. -/
def P2 (lo hi g y x : Nat) : Prop := (lo ≤ x ∧ x < hi) ∨ x = g ∨ x = y
section
variable {w0 W W' : World} {lo hi b rb gp gm : Nat} {K K' : Int} {T T' : Nat → Int} {L L' : Nat → List Nat} {N N' : List Int} {held held' : List Nat} {p p' : Nat → Th} {rg : Nat → Nat} {P : Nat → Prop} {t g : Nat} {o : Th}
theorem rbox_lt {r : Nat} (h : rbox W o r) (ho : gOf o ≠ none) : r < W.heap.size := by
  cases o with
  | idle => exact absurd rfl ho
  | pop g' st c x n => obtain ⟨yy, _, hm⟩ := h; exact hm.lt
  | push g' st c bk x => exact Mem.lt h
theorem rbox_fr {r : Nat} (h : rbox W o r) (k : Fr P W W') (hq : gOf o ≠ none → ¬ P r) : rbox W' o r := by
  cases o with
  | idle => trivial
  | pop g' st c x n => obtain ⟨yy, h1, hm⟩ := h; exact ⟨yy, h1, mem_fr hm k (hq (by simp [gOf]))⟩
  | push g' st c bk x => exact mem_fr h k (hq (by simp [gOf]))
theorem mem_ne {a d : Nat} {s s' : TypeId} {u u' : Array Value} (h : Mem W a s u) (k : Mem W d s' u') (hs : s ≠ s') : a ≠ d := by
  rintro rfl
  unfold Mem at h k
  rw [h] at k
  injection k with k
  injection k with _ k
  exact hs k
/-- A machine's box is none of the reference's. -/
theorem box_ne {o' : Th} {r g : Nat} (h : mbox W o) (hg : gOf o = some g) (k : rbox W o' r) (ho : gOf o' ≠ none) : g ≠ r := by
  cases o with
  | idle => cases hg
  | pop g1 st c x n =>
    obtain ⟨_, bl, _, hm⟩ := h
    injection hg with hg
    subst hg
    cases o' with
    | idle => exact absurd rfl ho
    | pop g' st c x n => obtain ⟨yy, _, hk⟩ := k; exact mem_ne hm hk (by decide)
    | push g' st c bk x => exact mem_ne hm k (by decide)
  | push g1 st c bk x =>
    have hm := h.2
    injection hg with hg
    subst hg
    cases o' with
    | idle => exact absurd rfl ho
    | pop g' st c x n => obtain ⟨yy, _, hk⟩ := k; exact mem_ne hm hk (by decide)
    | push g' st c bk x => exact mem_ne hm k (by decide)
theorem KB.fr (h : KB w0 lo hi b rb gp gm K T L N held p rg W) (k : Fr P W W') (hP : ∀ x, P x → hi ≤ x ∧ x ≠ gp ∧ (x ≤ gm ∨ ∀ t, t ≤ 3 → gOf (p t) ≠ some x ∧ (gOf (p t) ≠ none → rg t ≠ x))) : KB w0 lo hi b rb gp gm K T L N held p rg W' := by
  have hod := h.od
  refine ⟨h.core.fr k (fun x h1 h2 h3 => by have := (hP x h3).1; omega) (fun x h3 => by have := (hP x h3).1; omega) (fun t x ht hg h3 => ?_), mem_fr h.pm k (fun x => (hP _ x).2.1 rfl), fun t ht => rbox_fr (h.rx t ht) k (fun hn hx => ?_), h.rb2, h.rdi, h.lv, ⟨hod.1, hod.2.1, hod.2.2.1, hod.2.2.2.1, Nat.lt_of_lt_of_le hod.2.2.2.2 k.size⟩, h.ln⟩
  · rcases (hP x h3).2.2 with h4 | h4
    · have := h.core.gb t x ht hg; omega
    · exact (h4 t ht).1 hg
  · rcases (hP _ hx).2.2 with h4 | h4
    · have := h.rb2 t ht hn; omega
    · exact (h4 t ht).2 hn rfl
theorem KB.below (h : KB w0 lo hi b rb gp gm K T L N held p rg W) (k : Below W.heap.size W W') : KB w0 lo hi b rb gp gm K T L N held p rg W' := h.fr (P := fun _ => False) (Fr.of_below k) fun _ => False.elim
theorem KB.tab (h : KB w0 lo hi b rb gp gm K T L N held p rg W) (i : Nat) (v : Value) : KB w0 lo hi b rb gp gm K T L N held p rg (W.setCell ⟨gm, i, none⟩ v) := by
  have hod := h.od
  exact h.fr ((Fr.refl (fun x => x = gm) W).set_ ⟨gm, i, none⟩ (.inl rfl) v) fun x e => by subst e; exact ⟨by omega, by omega, .inl (Nat.le_refl _)⟩
theorem box_pq {r : Nat} (h : rbox W o r) (ho : gOf o ≠ none) {B : Nat} : ¬ PQ B W r := by
  cases o with
  | idle => exact absurd rfl ho
  | pop g' st c x n => obtain ⟨yy, _, hk⟩ := h; exact not_pq hk (by decide)
  | push g' st c bk x => exact not_pq h (by decide)
theorem mbox_pq {g B : Nat} (h : mbox W o) (hg : gOf o = some g) : ¬ PQ B W g := by
  cases o with
  | idle => cases hg
  | pop g' st c x n =>
    obtain ⟨_, bl, _, hm⟩ := h
    injection hg with hg
    subst hg
    exact not_pq hm (by decide)
  | push g' st c bk x =>
    injection hg with hg
    subst hg
    exact not_pq h.2 (by decide)
/-- A row of integers grows. -/
theorem KB.row (h : KB w0 lo hi b rb gp gm K T L N held p rg W) (k : Fr (PQ (gm + 1) W) W W') : KB w0 lo hi b rb gp gm K T L N held p rg W' := by
  have hod := h.od
  exact h.fr k fun x hx => ⟨by have := hx.1; omega, by have := hx.1; omega, .inr fun t ht => ⟨fun e => mbox_pq (h.core.en t ht) e hx, fun hn e => box_pq (h.rx t ht) hn (e ▸ hx)⟩⟩
/-- A thread begins with a new machine. -/
theorem KB.new {r : Nat} (h : KB w0 lo hi b rb gp gm K T L N held p rg W) (ht : t ≤ 3) (hp : p t = .idle) (hb : Below W.heap.size W W') (hg : W.heap.size ≤ g) (hr : W.heap.size ≤ r) (ho : gOf o = some g) (hm : mbox W' o) (hx : rbox W' o r) (hinv : Inv K T L N held' (up p t o)) (hlv : ∀ g st c x n, o = .pop g st c x n → st ≤ 2) (hK : K ≤ K') (hln : (held'.length : Int) ≤ K') :
    KB w0 lo hi b rb gp gm K' T L N held' (up p t o) (up rg t r) W' := by
  have hod := h.od
  have hc := core_new h.core ht hb (by omega) hg ho hm hinv
  have hb' := h.below hb
  refine ⟨⟨hc.fl, hc.inv.more hK, hc.hb, hc.en, hc.gb, hc.di⟩, hb'.pm, fun u hu => ?_, fun u hu hn => ?_, fun a u ha hu hne hna hnu => ?_, fun u hu g' st c x n hq => ?_, hb'.od, hln⟩
  · by_cases e : u = t
    · subst e; rw [up_at, up_at]; exact hx
    · rw [up_ne e, up_ne e]; exact hb'.rx u hu
  · by_cases e : u = t
    · subst e; rw [up_at]; omega
    · rw [up_ne e] at hn ⊢; exact h.rb2 u hu hn
  · by_cases e1 : a = t
    · subst e1
      rw [up_ne (Ne.symm hne)] at hnu
      rw [up_at, up_ne (Ne.symm hne)]
      have := rbox_lt (h.rx u hu) hnu
      omega
    · by_cases e2 : u = t
      · subst e2
        rw [up_ne e1] at hna
        rw [up_ne e1, up_at]
        have := rbox_lt (h.rx a ha) hna
        omega
      · rw [up_ne e1] at hna
        rw [up_ne e2] at hnu
        rw [up_ne e1, up_ne e2]
        exact h.rdi a u ha hu hne hna hnu
  · by_cases e : u = t
    · subst e; rw [up_at] at hq; exact hlv g' st c x n hq
    · rw [up_ne e] at hq; exact h.lv u hu g' st c x n hq
/-- A step of both machines of a thread. -/
theorem KB.step (h : KB w0 lo hi b rb gp gm K T L N held p rg W) (ht : t ≤ 3) (hg : gOf (p t) = some g) (k : Fr (P2 lo hi g (rg t)) W W') (hc : Core w0 lo hi b rb true (gm + 1) K' T' L' N' held' (up p t o) W') (hx : rbox W' o (rg t)) (hlv : ∀ g st c x n, o = .pop g st c x n → st ≤ 2) (hln : (held'.length : Int) ≤ K') :
    KB w0 lo hi b rb gp gm K' T' L' N' held' (up p t o) rg W' := by
  have hod := h.od
  have hgg := h.core.gb t g ht hg
  have hrg := h.rb2 t ht (by rw [hg]; simp)
  have hnt : ∀ u, gOf (up p t o u) ≠ none → u ≠ t → gOf (p u) ≠ none := fun u hn e => by rwa [up_ne e] at hn
  refine ⟨hc, mem_fr h.pm k (by unfold P2; omega), fun u hu => ?_, fun u hu hn => ?_, fun a u ha hu hne hna hnu => ?_, fun u hu g' st c x n hq => ?_, ⟨hod.1, hod.2.1, hod.2.2.1, hod.2.2.2.1, Nat.lt_of_lt_of_le hod.2.2.2.2 k.size⟩, hln⟩
  · by_cases e : u = t
    · subst e; rw [up_at]; exact hx
    · rw [up_ne e]
      refine rbox_fr (h.rx u hu) k fun hn hq => ?_
      have h1 := h.rb2 u hu hn
      rcases hq with hq | hq | hq
      · omega
      · exact box_ne (h.core.en t ht) hg (h.rx u hu) hn hq.symm
      · exact h.rdi u t hu ht e hn (by rw [hg]; simp) hq
  · by_cases e : u = t
    · subst e; exact hrg
    · exact h.rb2 u hu (hnt u hn e)
  · have ha' : gOf (p a) ≠ none := by
      by_cases e : a = t
      · subst e; rw [hg]; simp
      · exact hnt a hna e
    have hu' : gOf (p u) ≠ none := by
      by_cases e : u = t
      · subst e; rw [hg]; simp
      · exact hnt u hnu e
    exact h.rdi a u ha hu hne ha' hu'
  · by_cases e : u = t
    · subst e; rw [up_at] at hq; exact hlv g' st c x n hq
    · rw [up_ne e] at hq; exact h.lv u hu g' st c x n hq
/-- Which blocks a step may not turn. -/
theorem KB.apart (h : KB w0 lo hi b rb gp gm K T L N held p rg W) (ht : t ≤ 3) (hg : gOf (p t) = some g) : ∀ u g', u ≤ 3 → u ≠ t → gOf (p u) = some g' → ¬ P2 lo hi g (rg t) g' := by
  intro u g' hu hne hg' hx
  have hod := h.od
  have h1 := h.core.gb u g' hu hg'
  rcases hx with hx | hx | hx
  · omega
  · subst hx; exact h.core.di u t g' hu ht hne hg' hg
  · exact box_ne (h.core.en u hu) hg' (h.rx t ht) (by rw [hg]; simp) hx
theorem own_tab {hv : Value} {xs : List Int} (h : OwnQ W (gm + 1) hv xs) (i : Nat) (v : Value) : OwnQ (W.setCell ⟨gm, i, none⟩ v) (gm + 1) hv xs := h.fr ((Fr.refl (fun x => x = gm) W).set_ ⟨gm, i, none⟩ (.inl rfl) v) fun x hx e => by subst e; have := hx.1; omega
/-- A pop begins: both machines' boxes, and their places in the table. -/
theorem begin_pop {hv : Value} {xs : List Int} {c : Nat} (h : KB w0 lo hi b rb gp gm K T L N held p rg W) (hT : Mem W gm TM (A16 (tb p rg))) (hO : OwnQ W (gm + 1) hv xs) (ht : t ≤ 3) (hp : p t = .idle) (hc : c ≤ 3) (hK : K ≤ K') :
    ∃ (g r : Nat) (W1 W2 W3 W4 : World), Calls Try.prog 18 #[.int .i64 c] W (fun e w' => e = .returned (.pointer (some ⟨g, 0, none⟩)) ∧ w' = W1) ∧ Calls Try.prog 19 #[.int .i64 c] W1 (fun e w' => e = .returned (.pointer (some ⟨r, 0, none⟩)) ∧ w' = W2) ∧
      W2.cell? ⟨gm, t * 4, none⟩ = some (.pointer none) ∧ W2.frozen? ⟨gm, t * 4, none⟩ = false ∧ W2.setCell ⟨gm, t * 4, none⟩ (.pointer (some ⟨g, 0, none⟩)) = W3 ∧ W3.cell? ⟨gm, t * 4 + 2, none⟩ = some (.pointer none) ∧ W3.frozen? ⟨gm, t * 4 + 2, none⟩ = false ∧ W3.setCell ⟨gm, t * 4 + 2, none⟩ (.pointer (some ⟨r, 0, none⟩)) = W4 ∧
      KB w0 lo hi b rb gp gm K' T L N held (up p t (.pop g 0 c 0 0)) (up rg t r) W4 ∧ Mem W4 gm TM (A16 (tb (up p t (.pop g 0 c 0 0)) (up rg t r))) ∧ OwnQ W4 (gm + 1) hv xs := by
  have hod := h.od
  have M1 := Mem.new W TP1 (oBox 0 c 0 0 (-1))
  have M2 := Mem.new (W.alloc (.cells (oBox 0 c 0 0 (-1)) TP1)) TQ1 (roBox 0 c 0 0 (-1))
  have hb : Below W.heap.size W ((W.alloc (.cells (oBox 0 c 0 0 (-1)) TP1)).alloc (.cells (roBox 0 c 0 0 (-1)) TQ1)) := below_new2 W _ _
  rw [size_new] at M2
  have hT2 := (hT.alloc (.cells (oBox 0 c 0 0 (-1)) TP1)).alloc (.cells (roBox 0 c 0 0 (-1)) TQ1)
  have hO2 := hO.below hb
  have hK2 := h.new (g := W.heap.size) (r := W.heap.size + 1) (o := .pop W.heap.size 0 c 0 0) ht hp hb (Nat.le_refl _) (by omega) rfl ⟨by omega, -1, fun _ => rfl, M1.alloc _⟩ ⟨0, (fun h => by cases h), M2⟩ (h.core.inv.turn ht (by rw [hp]; rfl) ⟨hc, .inl (.inl rfl)⟩) (fun g st c x n hq => by injection hq with _ e2; omega) hK (by have := h.ln; omega)
  have hgm : ¬ PQ (gm + 1) ((W.alloc (.cells (oBox 0 c 0 0 (-1)) TP1)).alloc (.cells (roBox 0 c 0 0 (-1)) TQ1)) gm := fun hx => by have := hx.1; omega
  have hT3 := am_set hT2 (i := t * 4) (by omega) (.pointer (some ⟨W.heap.size, 0, none⟩))
  have hT4 := am_set hT3 (i := t * 4 + 2) (by omega) (.pointer (some ⟨W.heap.size + 1, 0, none⟩))
  refine ⟨_, _, _, _, _, _, p_new c W, by have := q_new c (W.alloc (.cells (oBox 0 c 0 0 (-1)) TP1)); rw [size_new] at this; exact this, (A16_at hT2 (by omega)).trans (by rw [tb_at0, hp]; rfl), hT2.frozen _, rfl, (A16_at hT3 (by omega)).trans (by rw [up_ne (by omega), tb_at (by decide), hp]; rfl), hT3.frozen _, rfl, (hK2.tab _ _).tab _ _, ?_, ?_⟩
  · rw [A16_congr fun i _ => (tb_pop (g := W.heap.size) (r := W.heap.size + 1) (st := 0) (c := c) (x := 0) (n := 0) (rg := rg) hp i).symm]
    exact hT4
  · exact own_tab (own_tab hO2 _ _) _ _
/-- A push begins. -/
theorem begin_push {hv : Value} {xs : List Int} {bk : Nat} (h : KB w0 lo hi b rb gp gm K T L N (bk :: held) p rg W) (hT : Mem W gm TM (A16 (tb p rg))) (hO : OwnQ W (gm + 1) hv xs) (ht : t ≤ 3) (hp : p t = .idle) (hK : K ≤ K') :
    ∃ (g r : Nat) (W1 W2 W3 W4 : World), Calls Try.prog 15 #[.int .i64 (cl bk), .int .i64 bk] W (fun e w' => e = .returned (.pointer (some ⟨g, 0, none⟩)) ∧ w' = W1) ∧ Calls Try.prog 16 #[.int .i64 (cl bk), .int .i64 bk] W1 (fun e w' => e = .returned (.pointer (some ⟨r, 0, none⟩)) ∧ w' = W2) ∧
      W2.cell? ⟨gm, t * 4 + 1, none⟩ = some (.pointer none) ∧ W2.frozen? ⟨gm, t * 4 + 1, none⟩ = false ∧ W2.setCell ⟨gm, t * 4 + 1, none⟩ (.pointer (some ⟨g, 0, none⟩)) = W3 ∧ W3.cell? ⟨gm, t * 4 + 3, none⟩ = some (.pointer none) ∧ W3.frozen? ⟨gm, t * 4 + 3, none⟩ = false ∧ W3.setCell ⟨gm, t * 4 + 3, none⟩ (.pointer (some ⟨r, 0, none⟩)) = W4 ∧
      KB w0 lo hi b rb gp gm K' T L N held (up p t (.push g 0 (cl bk) bk 0)) (up rg t r) W4 ∧ Mem W4 gm TM (A16 (tb (up p t (.push g 0 (cl bk) bk 0)) (up rg t r))) ∧ OwnQ W4 (gm + 1) hv xs := by
  have hod := h.od
  have M1 := Mem.new W TP2 (uBox 0 (cl bk) bk 0)
  have M2 := Mem.new (W.alloc (.cells (uBox 0 (cl bk) bk 0) TP2)) TQ2 (ruBox 0 (cl bk) bk 0)
  have hb : Below W.heap.size W ((W.alloc (.cells (uBox 0 (cl bk) bk 0) TP2)).alloc (.cells (ruBox 0 (cl bk) bk 0) TQ2)) := below_new2 W _ _
  rw [size_new] at M2
  have hT2 := (hT.alloc (.cells (uBox 0 (cl bk) bk 0) TP2)).alloc (.cells (ruBox 0 (cl bk) bk 0) TQ2)
  have hO2 := hO.below hb
  have hK2 := h.new (g := W.heap.size) (r := W.heap.size + 1) (o := .push W.heap.size 0 (cl bk) bk 0) ht hp hb (Nat.le_refl _) (by omega) rfl ⟨by omega, M1.alloc _⟩ M2 (h.core.inv.push ht (by rw [hp]; rfl) W.heap.size 0) (fun g st c x n hq => by cases hq) hK (by have := h.ln; rw [List.length_cons] at this; omega)
  have hT3 := am_set hT2 (i := t * 4 + 1) (by omega) (.pointer (some ⟨W.heap.size, 0, none⟩))
  have hT4 := am_set hT3 (i := t * 4 + 3) (by omega) (.pointer (some ⟨W.heap.size + 1, 0, none⟩))
  refine ⟨_, _, _, _, _, _, u_new (cl bk) bk W, by have := v_new (cl bk) bk (W.alloc (.cells (uBox 0 (cl bk) bk 0) TP2)); rw [size_new] at this; exact this, (A16_at hT2 (by omega)).trans (by rw [tb_at (by decide), hp]; rfl), hT2.frozen _, rfl, (A16_at hT3 (by omega)).trans (by rw [up_ne (by omega), tb_at (by decide), hp]; rfl), hT3.frozen _, rfl, (hK2.tab _ _).tab _ _, ?_, ?_⟩
  · rw [A16_congr fun i _ => (tb_push (g := W.heap.size) (r := W.heap.size + 1) (st := 0) (c := cl bk) (bk := bk) (x := 0) (rg := rg) hp i).symm]
    exact hT4
  · exact own_tab (own_tab hO2 _ _) _ _
/-- A thread's place in the table is cleared. -/
theorem clear_tab {hv : Value} {xs : List Int} (h : KB w0 lo hi b rb gp gm K T L N held (up p t .idle) rg W) (hT : Mem W gm TM (A16 (tb p rg))) (hO : OwnQ W (gm + 1) hv xs) (ht : t ≤ 3) :
    ∃ W', (((W.setCell ⟨gm, t * 4, none⟩ (.pointer none)).setCell ⟨gm, t * 4 + 1, none⟩ (.pointer none)).setCell ⟨gm, t * 4 + 2, none⟩ (.pointer none)).setCell ⟨gm, t * 4 + 3, none⟩ (.pointer none) = W' ∧ KB w0 lo hi b rb gp gm K T L N held (up p t .idle) rg W' ∧ Mem W' gm TM (A16 (tb (up p t .idle) rg)) ∧ OwnQ W' (gm + 1) hv xs := by
  refine ⟨_, rfl, (((h.tab _ _).tab _ _).tab _ _).tab _ _, ?_, ?_⟩
  · have e : ∀ i, i ≤ 15 → tb (up p t .idle) rg i = up (up (up (up (tb p rg) (t * 4) (.pointer none)) (t * 4 + 1) (.pointer none)) (t * 4 + 2) (.pointer none)) (t * 4 + 3) (.pointer none) i := fun i _ => by
      rw [tb_clear, up_same (p := rg) (t := t) rfl]
    rw [A16_congr e]
    exact am_set (am_set (am_set (am_set hT (by omega) _) (by omega) _) (by omega) _) (by omega) _
  · exact own_tab (own_tab (own_tab (own_tab hO _ _) _ _) _ _) _ _
/-- A pop's step in both machines. -/
theorem pop_both {st c : Nat} {x n : Int} (h : KB w0 lo hi b rb gp gm K T L N held p rg W) (hK : K ≤ 1000000) (ht : t ≤ 3) (hp : p t = .pop g st c x n) :
    ∃ (k1 k2 k3 k4 k5 : Int) (d : Bool) (st' : Nat) (x' n' bl' yy' : Int) (T' : Nat → Int) (L' : Nat → List Nat) (held' : List Nat) (p' : Nat → Th) (S1 S2 : World → Prop),
      Calls Try.prog 20 #[.pointer (some ⟨g, 0, none⟩), .pointer (some ⟨b, 0, none⟩)] W (fun e w' => e = .returned (accV k1 k2 k3 k4 k5 d) ∧ S1 w') ∧
      (∀ w, S1 w → Calls Try.prog 21 #[.pointer (some ⟨rg t, 0, none⟩), .pointer (some ⟨rb, 0, none⟩)] w fun e w' => e = .returned (accV k1 k2 k3 k4 k5 d) ∧ S2 w') ∧
      (∀ w, S1 w → Fr (P2 lo hi g (rg t)) W w) ∧
      (∀ w, S2 w → Fr (P2 lo hi g (rg t)) W w ∧ Mem w g TP1 (oBox st' c x' n' bl') ∧ Mem w (rg t) TQ1 (roBox st' c x' yy' bl') ∧ KB w0 lo hi b rb gp gm (K + 1) T' L' N held' p' rg w) ∧
      PopOut K T L N held p t g c k1 k2 k3 d st' x' n' bl' T' L' held' p' := by
  have hod := h.od
  have hgo : gOf (p t) = some g := by rw [hp]; rfl
  have hgb := h.core.gb t g ht hgo
  have hrb := h.rb2 t ht (by rw [hgo]; simp)
  have hst := h.lv t ht _ _ _ _ _ hp
  obtain ⟨A, B, hd, h7, h8, h3, h4, h5, htw⟩ := h.core.fl.duo
  obtain rfl := htw rfl
  have hm := h.core.en t ht
  have hr := h.rx t ht
  rw [hp] at hm hr
  obtain ⟨_, bl, hbl, hm⟩ := hm
  obtain rfl := hbl hst
  obtain ⟨yy, hyy, hr⟩ := hr
  obtain ⟨A', k1, k2, k3, k4, k5, d, st', x', n', bl', yy', T', L', held', p', hpl, hql, hyy', h7', h8', hR, hI', hO⟩ := pop_plan2 (lo := lo) (hi := hi) (b := b) (rb := rb) (y := rg t) h7 h8 h.core.inv hK ht hp hst hyy (.inr (by omega)) (.inr (by omega))
  have hne : g ≠ rg t := mem_ne hm hr (by decide)
  refine ⟨k1, k2, k3, k4, k5, d, st', x', n', bl', yy', T', L', held', p', fun w => Duo lo hi w b rb hq A' B ∧ Mem w g TP1 (oBox st' c x' n' bl') ∧ Fr (PG lo hi g) W w, fun w => Duo lo hi w b rb hq A' A' ∧ Mem w g TP1 (oBox st' c x' n' bl') ∧ Mem w (rg t) TQ1 (roBox st' c x' yy' bl') ∧ Fr (P2 lo hi g (rg t)) W w, hpl B W hd hm, fun w ⟨hD, hM, hF⟩ => ?_, fun w ⟨_, _, hF⟩ => hF.wide fun x hx => ?_, fun w ⟨hD, hM, hM2, hF⟩ => ⟨hF, hM, hM2, ?_⟩, hO⟩
  · refine (hql w hD (mem_fr hr hF (by unfold PG; omega))).mono ?_
    rintro e w' ⟨he, hD', hM', hF'⟩
    refine ⟨he, hD', mem_fr hM hF' (by unfold PG; omega), hM', (hF.wide fun x hx => ?_).trans (hF'.wide fun x hx => ?_)⟩
    · rcases hx with hx | hx
      · exact .inl hx
      · exact .inr (.inl hx)
    · rcases hx with hx | hx
      · exact .inl hx
      · exact .inr (.inr hx)
  · rcases hx with hx | hx
    · exact .inl hx
    · exact .inr (.inl hx)
  · have hl := rest_lens hR ⟨h3, h4, h5⟩
    have hfl : Fl w0 lo hi b rb true T' L' N w := ⟨⟨A', A', hD, h7', h8', hl.1, hl.2.1, hl.2.2, fun _ => rfl⟩, h.core.fl.lo, hF.after h.core.fl.old (fun x hx => by rcases hx with hx | hx | hx <;> omega) (Nat.le_refl _)⟩
    have hc := core_popped h.core ht hp hF (h.apart ht hgo) hfl hI' hM hO
    have hln := h.ln
    rcases hO with ⟨g1, g2, rfl, rfl, rfl, rfl, _⟩ | ⟨g1, g2, _, rfl, rfl, rfl, rfl, _⟩ | ⟨g1, l, blk, _, _, rfl, rfl, rfl, rfl, _⟩
    · exact h.step ht hgo hF hc ⟨yy', hyy', by rw [g2] at hM2; exact hM2⟩ (fun g st c x n hq => by injection hq with _ e2; omega) (by omega)
    · exact h.step ht hgo hF hc trivial (fun g st c x n hq => by cases hq) (by omega)
    · exact h.step ht hgo hF hc trivial (fun g st c x n hq => by cases hq) (by rw [List.length_append]; simp; omega)
/-- A push's step in both machines. -/
theorem push_both {st c bk : Nat} {x : Int} (h : KB w0 lo hi b rb gp gm K T L N held p rg W) (hK : K ≤ 1000000) (ht : t ≤ 3) (hp : p t = .push g st c bk x) :
    ∃ (k1 k2 k3 k4 k5 : Int) (d : Bool) (st' : Nat) (x' : Int) (T' : Nat → Int) (L' : Nat → List Nat) (N' : List Int) (p' : Nat → Th) (S1 S2 : World → Prop),
      Calls Try.prog 24 #[.pointer (some ⟨g, 0, none⟩), .pointer (some ⟨b, 0, none⟩)] W (fun e w' => e = .returned (accV k1 k2 k3 k4 k5 d) ∧ S1 w') ∧
      (∀ w, S1 w → Calls Try.prog 25 #[.pointer (some ⟨rg t, 0, none⟩), .pointer (some ⟨rb, 0, none⟩)] w fun e w' => e = .returned (accV k1 k2 k3 k4 k5 d) ∧ S2 w') ∧
      (∀ w, S1 w → Fr (P2 lo hi g (rg t)) W w) ∧
      (∀ w, S2 w → Fr (P2 lo hi g (rg t)) W w ∧ Mem w g TP2 (uBox st' c bk x') ∧ Mem w (rg t) TQ2 (ruBox st' c bk x') ∧ KB w0 lo hi b rb gp gm (K + 1) T' L' N' held p' rg w) ∧
      PushOut T L N p t g c bk st' x' T' L' N' p' := by
  have hod := h.od
  have hgo : gOf (p t) = some g := by rw [hp]; rfl
  have hgb := h.core.gb t g ht hgo
  have hrb := h.rb2 t ht (by rw [hgo]; simp)
  obtain ⟨A, B, hd, h7, h8, h3, h4, h5, htw⟩ := h.core.fl.duo
  obtain rfl := htw rfl
  have hm := h.core.en t ht
  have hr := h.rx t ht
  rw [hp] at hm hr
  obtain ⟨hst, hm⟩ := hm
  have hr : Mem W (rg t) TQ2 (ruBox st c bk x) := hr
  obtain ⟨A', k1, k2, k3, k4, k5, d, st', x', T', L', N', p', hpl, hql, h7', h8', hR, hI', hO⟩ := push_plan (lo := lo) (hi := hi) (b := b) (rb := rb) (y := rg t) h7 h8 h.core.inv hK ht hp hst (.inr (by omega)) (.inr (by omega))
  have hne : g ≠ rg t := mem_ne hm hr (by decide)
  refine ⟨k1, k2, k3, k4, k5, d, st', x', T', L', N', p', fun w => Duo lo hi w b rb hq A' B ∧ Mem w g TP2 (uBox st' c bk x') ∧ Fr (PG lo hi g) W w, fun w => Duo lo hi w b rb hq A' A' ∧ Mem w g TP2 (uBox st' c bk x') ∧ Mem w (rg t) TQ2 (ruBox st' c bk x') ∧ Fr (P2 lo hi g (rg t)) W w, hpl B W hd hm, fun w ⟨hD, hM, hF⟩ => ?_, fun w ⟨_, _, hF⟩ => hF.wide fun x hx => ?_, fun w ⟨hD, hM, hM2, hF⟩ => ⟨hF, hM, hM2, ?_⟩, hO⟩
  · refine (hql w hD (mem_fr hr hF (by unfold PG; omega))).mono ?_
    rintro e w' ⟨he, hD', hM', hF'⟩
    refine ⟨he, hD', mem_fr hM hF' (by unfold PG; omega), hM', (hF.wide fun x hx => ?_).trans (hF'.wide fun x hx => ?_)⟩
    · rcases hx with hx | hx
      · exact .inl hx
      · exact .inr (.inl hx)
    · rcases hx with hx | hx
      · exact .inl hx
      · exact .inr (.inr hx)
  · rcases hx with hx | hx
    · exact .inl hx
    · exact .inr (.inl hx)
  · have hl := rest_lens hR ⟨h3, h4, h5⟩
    have hfl : Fl w0 lo hi b rb true T' L' N' w := ⟨⟨A', A', hD, h7', h8', hl.1, hl.2.1, hl.2.2, fun _ => rfl⟩, h.core.fl.lo, hF.after h.core.fl.old (fun x hx => by rcases hx with hx | hx | hx <;> omega) (Nat.le_refl _)⟩
    have hc := core_pushed h.core ht hp hF (h.apart ht hgo) hfl hI' hM hO
    have hln := h.ln
    rcases hO with ⟨g1, rfl, rfl, rfl⟩ | ⟨g1, rfl, rfl, rfl, rfl⟩
    · exact h.step ht hgo hF hc hM2 (fun g st c x n hq => by cases hq) (by omega)
    · exact h.step ht hgo hF hc trivial (fun g st c x n hq => by cases hq) (by omega)
/-- Both machines' cells are the same. -/
theorem same_both (h : KB w0 lo hi b rb gp gm K T L N held p rg W) : Calls Try.prog 27 #[pairV b rb] W fun e w' => e = .returned (.bool true) ∧ KB w0 lo hi b rb gp gm K T L N held p rg w' ∧ Stay lo hi W w' := by
  have hod := h.od
  obtain ⟨A, B, hd, h7, h8, h3, h4, h5, htw⟩ := h.core.fl.duo
  obtain rfl := htw rfl
  refine (p_same hd).mono ?_
  rintro e w' ⟨he, hD, hS⟩
  have hF := Fr.of_stay (P := PI lo hi) hS (fun x a c => ⟨a, c⟩)
  refine ⟨he, ⟨⟨⟨⟨B, B, hD, h7, h8, h3, h4, h5, fun _ => rfl⟩, h.core.fl.lo, hF.after h.core.fl.old (fun x hx => by unfold PI at hx; omega) (Nat.le_refl _)⟩, h.core.inv, h.core.hb, fun t ht => mbox_fr (h.core.en t ht) hF (fun g hg hx => by have := h.core.gb t g ht hg; unfold PI at hx; omega), h.core.gb, h.core.di⟩, mem_fr h.pm hF (by unfold PI; omega), fun t ht => rbox_fr (h.rx t ht) hF (fun hn hx => by have := h.rb2 t ht hn; unfold PI at hx; omega), h.rb2, h.rdi, h.lv, ⟨hod.1, hod.2.1, hod.2.2.1, hod.2.2.2.1, Nat.lt_of_lt_of_le hod.2.2.2.2 hS.size⟩, h.ln⟩, hS⟩
end
end Go.Proofs.Ytnakmajnljpblaa.FreF
