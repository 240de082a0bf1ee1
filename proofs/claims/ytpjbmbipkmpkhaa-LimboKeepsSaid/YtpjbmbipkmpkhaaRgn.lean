/-
  Texts on no program: a region that draws its order: what holds behind each operation, whatever the order; what holds of the world goes by which operations are over.
-/
import Derived.Test.YtpjbmbipkmpkhaaBlk
import Derived.Orders
import Derived.RowKit
namespace Go.Proofs.Ytpjbmbipkmpkhaa.Rgn
open Go.RowKit
set_option linter.unusedVariables false

def mark (L : Nat → Bool) (i : Nat) : Nat → Bool := fun k => if k = i then true else L k
theorem mark_ne {L : Nat → Bool} {i k : Nat} (h : k ≠ i) : mark L i k = L k := if_neg h
theorem mark_self {L : Nat → Bool} {i : Nat} : mark L i i = true := if_pos rfl
section
variable {P : Program} {md : Region.Mode} {ops : Array Oper} {Q : Exit → Act → World → Prop}
theorem any_inv (Inv : (Nat → Bool) → Act → World → Prop)
    (step : ∀ L a w i, Inv L a w → i < ops.size → L i = false → (∀ o, ops[i]? = some o → ∀ e ∈ o.after, Region.binds md e = true → L e.on = true) → ∀ K : Act → World → Prop, (∀ a' w', Inv (mark L i) a' w' → K a' w') → wpOp P ops Q i K a w)
    (fin : ∀ L a w, Inv L a w → (∀ i, i < ops.size → L i = true) → Q .normal a w)
    (live : ∀ L : Nat → Bool, (∃ i, i < ops.size ∧ L i = false) → ∃ i, i < ops.size ∧ L i = false ∧ ∀ o, ops[i]? = some o → ∀ e ∈ o.after, Region.binds md e = true → L e.on = true) :
    ∀ (fuel : Nat) (listed : Array Bool) (a : Act) (w : World), listed.size = ops.size → ((List.range ops.size).filter (fun i => !listed.getD i true)).length ≤ fuel → Inv (fun k => listed.getD k false) a w → wpAny P md ops Q fuel listed a w := by
  have key : ∀ (listed : Array Bool) (i : Nat), listed.size = ops.size → i < ops.size → listed.getD i true = listed.getD i false := by
    intro listed i h1 h2
    simp [h1, h2]
  have allset : ∀ (listed : Array Bool), listed.size = ops.size → Region.ready md ops listed = [] → ∀ i, i < ops.size → listed.getD i false = true := by
    intro listed hs hr i hi
    cases hb : listed.getD i false with
    | true => rfl
    | false =>
      obtain ⟨j, hj, hjf, hjo⟩ := live (fun k => listed.getD k false) ⟨i, hi, hb⟩
      have : j ∈ Region.ready md ops listed := mem_ready.2 ⟨by rw [key listed j hs hj]; exact hjf, ops[j], Array.getElem?_eq_getElem hj, hjo _ (Array.getElem?_eq_getElem hj)⟩
      rw [hr] at this
      cases this
  intro fuel
  induction fuel with
  | zero =>
    intro listed a w hs hf hI
    have hall : ∀ i, i < ops.size → listed.getD i false = true := by
      intro i hi
      rw [← key listed i hs hi]
      cases hb : listed.getD i true with
      | true => rfl
      | false =>
        have : i ∈ (List.range ops.size).filter (fun i => !listed.getD i true) := List.mem_filter.2 ⟨List.mem_range.2 hi, by rw [hb]; rfl⟩
        have := List.length_pos_of_mem this
        omega
    refine ⟨?_, fin _ a w hI hall⟩
    apply List.eq_nil_iff_forall_not_mem.2
    intro j hj
    obtain ⟨h0, o, ho, _⟩ := mem_ready.1 hj
    have hj2 : j < ops.size := (Array.getElem?_eq_some_iff.1 ho).1
    rw [key listed j hs hj2, hall j hj2] at h0
    cases h0
  | succ fuel ih =>
    intro listed a w hs hf hI
    refine ⟨fun hr => fin _ a w hI (allset listed hs hr), fun i hi => ?_⟩
    obtain ⟨h0, o, ho, hall⟩ := mem_ready.1 hi
    have hi2 : i < ops.size := (Array.getElem?_eq_some_iff.1 ho).1
    refine step _ a w i hI hi2 (by rw [← key listed i hs hi2]; exact h0) (fun o' ho' e he hb => ?_) _ fun a' w' hI' => ih (listed.setIfInBounds i true) a' w' (by simpa using hs) ?_ ?_
    · rw [ho] at ho'
      injection ho' with ho'
      subst ho'
      exact hall e he hb
    · have hlt : ((List.range ops.size).filter (fun k => !(listed.setIfInBounds i true).getD k true)).length < ((List.range ops.size).filter (fun k => !listed.getD k true)).length := by
        have hsub : ((List.range ops.size).filter (fun k => !(listed.setIfInBounds i true).getD k true)) = ((List.range ops.size).filter (fun k => !listed.getD k true)).filter (fun k => k != i) := by
          rw [List.filter_filter]
          apply List.filter_congr
          intro k hk
          by_cases hki : k = i
          · subst hki
            simp [hs, hi2]
          · rw [getD_set_ne true (Ne.symm hki)]
            simp [hki]
        rw [hsub]
        have hm : i ∈ (List.range ops.size).filter (fun k => !listed.getD k true) := List.mem_filter.2 ⟨List.mem_range.2 hi2, by rw [h0]; rfl⟩
        exact List.length_filter_lt_length_iff_exists.2 ⟨i, hm, by simp⟩
      omega
    · have : (fun k => (listed.setIfInBounds i true).getD k false) = mark (fun k => listed.getD k false) i := by
        funext k
        unfold mark
        by_cases hk : k = i
        · subst hk
          simp [hs, hi2]
        · rw [if_neg hk, getD_set_ne false (Ne.symm hk)]
      rw [this]
      exact hI'
theorem eval_same {a : Act} {d : Nat} {v : Value} (h : d < a.tmps.size) : (a.put (some d) v).eval (.tmp d) = v := by
  simp [Act.eval, Act.put, h]
theorem eval_other {a : Act} {d k : Nat} {v : Value} (h : d ≠ k) : (a.put (some d) v).eval (.tmp k) = a.eval (.tmp k) := by
  simp [Act.eval, Act.put, Array.getElem?_setIfInBounds_ne h]
theorem eval_tmp (a : Act) (t : Nat) : a.tmps[t]?.getD undef = a.eval (.tmp t) := by
  simp [Act.eval]
def dst (ops : Array Oper) (i : Nat) : Option Nat := (ops[i]?.map (·.dst)).getD none
/-- An operation that is carried out. -/
theorem op_of {i : Nat} {o : Oper} {a : Act} {w : World} {K : Act → World → Prop} (h : ops[i]? = some o) (hg : o.guard = none) (hK : o.wp P a w K Q) : wpOp P ops Q i K a w := by
  unfold wpOp
  rw [h]
  have hw : Region.wanted o (yielded ops a.tmps) = true := by simp [Region.wanted, hg]
  simp only [hw, if_true]
  exact .inl hK
theorem op_of_guard {i j d : Nat} {b : Bool} {o : Oper} {a : Act} {w : World} {K : Act → World → Prop} (h : ops[i]? = some o) (hg : o.guard = some (j, b)) (hd : dst ops j = some d) (hv : a.tmps[d]?.getD undef = .bool b) (hK : o.wp P a w K Q) : wpOp P ops Q i K a w := by
  unfold wpOp
  rw [h]
  have hy : yielded ops a.tmps j = some b := by
    unfold dst at hd
    unfold yielded
    cases hj : ops[j]? with
    | none => rw [hj] at hd; cases hd
    | some x =>
      rw [hj] at hd
      have hd : x.dst = some d := hd
      cases ht : a.tmps[d]? with
      | none => rw [ht] at hv; cases hv
      | some y =>
        rw [ht] at hv
        have hv : y = .bool b := hv
        simp [hd, ht, hv]
  have hw : Region.wanted o (yielded ops a.tmps) = true := by simp [Region.wanted, hg, hy]
  simp only [hw, if_true]
  exact .inl hK
/-- What operation i waits for at once. -/
def depsOf (ops : Array Oper) (i : Nat) : List Nat := match ops[i]? with
  | none => []
  | some o => (o.after.toList.filter (fun e => Region.binds .any e)).map (·.on)
/-- What operation i waits for, at once or by others. -/
inductive Reach (ops : Array Oper) : Nat → Nat → Prop where
  | one {i j : Nat} : j ∈ depsOf ops i → Reach ops i j
  | more {i j k : Nat} : j ∈ depsOf ops i → Reach ops j k → Reach ops i k
/-- The same as a table of bits. -/
def maskAt (ops : Array Oper) (t : List Nat) (i : Nat) : Nat := (depsOf ops i).foldl (fun m j => m ||| t.getD j 0 ||| 2 ^ j) 0
def masks (ops : Array Oper) : Nat → List Nat
  | 0 => []
  | n + 1 => masks ops n ++ [maskAt ops (masks ops n) n]
def ancB (ops : Array Oper) (i j : Nat) : Bool := ((masks ops ops.size).getD i 0).testBit j
theorem mask_fold {ops : Array Oper} {t : List Nat} {i : Nat} (ht : ∀ j k, (t.getD j 0).testBit k = true → Reach ops j k) : ∀ (l : List Nat) (m : Nat), (∀ j ∈ l, j ∈ depsOf ops i) → (∀ k, m.testBit k = true → Reach ops i k) → ∀ k, (l.foldl (fun m j => m ||| t.getD j 0 ||| 2 ^ j) m).testBit k = true → Reach ops i k
  | [], m, _, hm, k, h => hm k h
  | j :: l, m, hl, hm, k, h => by
    refine mask_fold ht l _ (fun x hx => hl x (by simp [hx])) (fun x hx => ?_) k h
    rw [Nat.testBit_or, Nat.testBit_or, Bool.or_eq_true, Bool.or_eq_true] at hx
    rcases hx with (hx | hx) | hx
    · exact hm x hx
    · exact .more (hl j (by simp)) (ht j x hx)
    · rw [Nat.testBit_two_pow] at hx
      have hx : j = x := of_decide_eq_true hx
      subst hx
      exact .one (hl j (by simp))
theorem masks_reach (ops : Array Oper) : ∀ n j k, ((masks ops n).getD j 0).testBit k = true → Reach ops j k
  | 0, j, k, h => by simp [masks] at h
  | n + 1, j, k, h => by
    have hlen : ∀ n, (masks ops n).length = n := by
      intro n
      induction n with
      | zero => rfl
      | succ n ih => simp [masks, ih]
    unfold masks at h
    rcases Nat.lt_trichotomy j n with hj | hj | hj
    · rw [List.getD_eq_getElem?_getD, List.getElem?_append_left (by rw [hlen]; exact hj), ← List.getD_eq_getElem?_getD] at h
      exact masks_reach ops n j k h
    · subst hj
      rw [List.getD_eq_getElem?_getD, List.getElem?_append_right (by rw [hlen]; exact Nat.le_refl _), hlen, Nat.sub_self] at h
      exact mask_fold (masks_reach ops j) _ 0 (fun _ h => h) (fun k h => by simp at h) k h
    · rw [List.getD_eq_getElem?_getD, List.getElem?_append_right (by rw [hlen]; omega), hlen, List.getElem?_eq_none (by simp; omega)] at h
      simp at h
def Closed (ops : Array Oper) (L : Nat → Bool) : Prop := ∀ i, i < ops.size → L i = true → ∀ j ∈ depsOf ops i, L j = true
theorem deps_lt {i j : Nat} (h : j ∈ depsOf ops i) : i < ops.size := by
  unfold depsOf at h
  cases ho : ops[i]? with
  | none => rw [ho] at h; cases h
  | some o => exact (Array.getElem?_eq_some_iff.1 ho).1
theorem reach_listed {L : Nat → Bool} (hc : Closed ops L) {i j : Nat} (h : Reach ops i j) : (∀ k ∈ depsOf ops i, L k = true) → L j = true := by
  induction h with
  | one h => exact fun hi => hi _ h
  | more h hr ih =>
    intro hi
    refine ih fun k hk => hc _ (deps_lt hk) (hi _ h) k hk
/-- What holds of an activation when the operations of L are over: each left its value V, all else is as it was. -/
structure Held (ops : Array Oper) (V : Nat → Value) (a0 : Act) (L : Nat → Bool) (a : Act) : Prop where
  sz : a.tmps.size = a0.tmps.size
  df : a.defers = a0.defers
  old : ∀ t, (∀ i, i < ops.size → dst ops i = some t → L i = false) → a.eval (.tmp t) = a0.eval (.tmp t)
  val : ∀ i, i < ops.size → L i = true → ∀ d, dst ops i = some d → a.eval (.tmp d) = V i
theorem Held.put {V : Nat → Value} {a0 a : Act} {L : Nat → Bool} (h : Held ops V a0 L a) {i : Nat} (hi : i < ops.size) (hd : ∀ d, dst ops i = some d → d < a0.tmps.size)
    (hinj : ∀ j, j < ops.size → ∀ d, dst ops i = some d → dst ops j = some d → j = i) : Held ops V a0 (mark L i) (a.put (dst ops i) (V i)) := by
  cases hdi : dst ops i with
  | none =>
    refine ⟨h.sz, h.df, fun t ht => h.old t fun j hj hjt => ?_, fun j hj hL d hjd => ?_⟩
    · have := ht j hj hjt
      by_cases e : j = i
      · subst e; rw [hdi] at hjt; cases hjt
      · rwa [mark_ne e] at this
    · by_cases e : j = i
      · subst e; rw [hdi] at hjd; cases hjd
      · rw [mark_ne e] at hL; exact h.val j hj hL d hjd
  | some d =>
    refine ⟨by simp [Act.put, h.sz], h.df, fun t ht => ?_, fun j hj hL x hjx => ?_⟩
    · have hdt : d ≠ t := by
        rintro rfl
        have := ht i hi hdi
        rw [mark_self] at this
        cases this
      rw [eval_other hdt]
      refine h.old t fun j hj hjt => ?_
      have := ht j hj hjt
      by_cases e : j = i
      · subst e; rw [mark_self] at this; cases this
      · rwa [mark_ne e] at this
    · by_cases e : j = i
      · subst e
        rw [hdi] at hjx
        cases hjx
        exact eval_same (by rw [h.sz]; exact hd _ hdi)
      · rw [mark_ne e] at hL
        rw [eval_other (fun e2 => e (hinj j hj d hdi (by rw [hjx, e2])))]
        exact h.val j hj hL x hjx
theorem held_eq {V : Nat → Value} {a0 a b : Act} {L : Nat → Bool} (hL : ∀ i, i < ops.size → L i = true) {L' : Nat → Bool} (hL' : ∀ i, i < ops.size → L' i = true) (h : Held ops V a0 L a) (k : Held ops V a0 L' b) : a = b := by
  have ht : a.tmps = b.tmps := by
    apply Array.ext (h.sz.trans k.sz.symm)
    intro t h1 h2
    have e : a.eval (.tmp t) = b.eval (.tmp t) := by
      by_cases hx : ∃ i, i < ops.size ∧ dst ops i = some t
      · obtain ⟨i, hi, hd⟩ := hx
        rw [h.val i hi (hL i hi) t hd, k.val i hi (hL' i hi) t hd]
      · rw [h.old t (fun i hi hd => absurd ⟨i, hi, hd⟩ hx), k.old t (fun i hi hd => absurd ⟨i, hi, hd⟩ hx)]
    simpa [Act.eval, h1, h2] using e
  obtain ⟨t1, d1⟩ := a
  obtain ⟨t2, d2⟩ := b
  have hd := h.df.trans k.df.symm
  simp only at ht hd
  rw [ht, hd]
def okB (ops : Array Oper) (m : Nat) : Bool :=
  (List.range ops.size).all (fun i => (match dst ops i with
    | none => true
    | some d => decide (d < m) && (List.range i).all (fun j => !decide (dst ops j = some d))) && (depsOf ops i).all (fun j => decide (j < i)))
/-- All operations' values put in one after the other. -/
def after (ops : Array Oper) (V : Nat → Value) (a0 : Act) : Nat → Act
  | 0 => a0
  | n + 1 => (after ops V a0 n).put (dst ops n) (V n)
/-- **A region that draws its order**: S says what holds of the world, by which operations are over. -/
theorem region_staged {G : Type} {id : Nat} {a0 : Act} {w0 : World} (hm : P.follows .mixedOrders = true) (V : G → Nat → Value) (S : G → (Nat → Bool) → World → Prop) (g0 : G) (n m : Nat) (hn : ops.size = n) (hok : okB ops m = true) (hsz : a0.tmps.size = m)
    (hs0 : S g0 (fun _ => false) w0.drew)
    (step : ∀ i, i < n → ∀ g L a w, S g L w → L i = false → (∀ j, ancB ops i j = true → L j = true) → (∀ j, j < n → ancB ops j i = true → L j = false) → (∀ t, (∀ j, j < n → dst ops j ≠ some t) → a.eval (.tmp t) = a0.eval (.tmp t)) →
      (∀ j d, ancB ops i j = true → dst ops j = some d → a.eval (.tmp d) = V g j) → ∀ K : Act → World → Prop, (∀ g' w', (∀ j, j < n → L j = true → V g' j = V g j) → S g' (mark L i) w' → K (a.put (dst ops i) (V g' i)) w') → wpOp P ops Q i K a w)
    (fin : ∀ g L w, (∀ i, i < n → L i = true) → S g L w → Q .normal (after ops (V g) a0 n) w) : (Code.region id ops true).wp P Q a0 w0 := by
  subst hn
  have hall : ∀ i, i < ops.size → (∀ d, dst ops i = some d → d < m ∧ ∀ j, j < i → dst ops j ≠ some d) ∧ ∀ j ∈ depsOf ops i, j < i := by
    intro i hi
    have h := List.all_eq_true.1 hok i (List.mem_range.2 hi)
    rw [Bool.and_eq_true] at h
    refine ⟨fun d hd => ?_, fun j hj => of_decide_eq_true (List.all_eq_true.1 h.2 j hj)⟩
    have h1 := h.1
    rw [hd] at h1
    simp only [Bool.and_eq_true] at h1
    refine ⟨of_decide_eq_true h1.1, fun j hj e => ?_⟩
    have := List.all_eq_true.1 h1.2 j (List.mem_range.2 hj)
    simp [e] at this
  have hlt : ∀ i, i < ops.size → ∀ d, dst ops i = some d → d < a0.tmps.size := fun i hi d hd => by rw [hsz]; exact ((hall i hi).1 d hd).1
  have hinj : ∀ i, i < ops.size → ∀ j, j < ops.size → ∀ d, dst ops i = some d → dst ops j = some d → j = i := by
    intro i hi j hj d h1 h2
    rcases Nat.lt_trichotomy i j with h | h | h
    · exact absurd h1 (((hall j hj).1 d h2).2 i h)
    · exact h.symm
    · exact absurd h2 (((hall i hi).1 d h1).2 j h)
  have hafter : ∀ g k, k ≤ ops.size → Held ops (V g) a0 (fun i => decide (i < k)) (after ops (V g) a0 k) := by
    intro g k
    induction k with
    | zero => exact fun _ => ⟨rfl, rfl, fun _ _ => rfl, fun i hi h => by simp at h⟩
    | succ k ih =>
      intro hk
      have h := (ih (by omega)).put (i := k) (by omega) (hlt k (by omega)) (hinj k (by omega))
      have e : mark (fun i => decide (i < k)) k = fun i => decide (i < k + 1) := by
        funext i
        unfold mark
        by_cases e : i = k
        · subst e; simp
        · rw [if_neg e]
          have : (i < k) ↔ (i < k + 1) := by omega
          simp [this]
      rw [e] at h
      exact h
  refine wp_region_any hm ?_
  refine any_inv (fun L a w => ∃ g, Held ops (V g) a0 L a ∧ S g L w ∧ Closed ops L) ?_ ?_ ?_ ops.size _ a0 _ (by simp) ?_ ?_
  · rintro L a w i ⟨g, hh, hs, hc⟩ hi hL hr K hK
    have hdl : ∀ j ∈ depsOf ops i, L j = true := by
      intro j hj
      unfold depsOf at hj
      cases ho : ops[i]? with
      | none => rw [ho] at hj; cases hj
      | some o =>
        rw [ho] at hj
        obtain ⟨e, he, rfl⟩ := List.mem_map.1 hj
        obtain ⟨he1, he2⟩ := List.mem_filter.1 he
        exact hr o ho e (by simpa using he1) he2
    have hanc : ∀ j, ancB ops i j = true → L j = true := fun j hj => reach_listed hc (masks_reach ops _ i j hj) hdl
    refine step i hi g L a w hs hL hanc (fun j hj1 hj => ?_) (fun t ht => hh.old t fun j hj hjt => absurd hjt (ht j hj)) (fun j d hj hd => ?_) K fun g' w' hag hw' => hK _ _ ⟨g', Held.put ⟨hh.sz, hh.df, hh.old, fun j hj hLj d hd => (hh.val j hj hLj d hd).trans (hag j hj hLj).symm⟩ hi (hlt i hi) (hinj i hi), hw', ?_⟩
    · cases h : L j with
      | false => rfl
      | true =>
        have := reach_listed hc (masks_reach ops _ j i hj) (fun k hk => hc j hj1 h k hk)
        rw [hL] at this
        cases this
    · refine hh.val j ?_ (hanc j hj) d hd
      unfold dst at hd
      cases ho : ops[j]? with
      | none => rw [ho] at hd; cases hd
      | some o => exact (Array.getElem?_eq_some_iff.1 ho).1
    · intro k hk hkL j hj
      by_cases e : k = i
      · subst e
        by_cases e2 : j = k
        · subst e2; exact mark_self
        · rw [mark_ne e2]; exact hdl j hj
      · rw [mark_ne e] at hkL
        have := hc k hk hkL j hj
        by_cases e2 : j = i
        · subst e2; exact mark_self
        · rw [mark_ne e2]; exact this
  · rintro L a w ⟨g, hh, hs, _⟩ hall'
    rw [held_eq hall' (fun i hi => by simpa using hi) hh (hafter g ops.size (Nat.le_refl _))]
    exact fin g L w hall' hs
  · rintro L ⟨i, hi, hL⟩
    have key : ∀ m i, i ≤ m → i < ops.size → L i = false → ∃ i, i < ops.size ∧ L i = false ∧ ∀ o, ops[i]? = some o → ∀ e ∈ o.after, Region.binds .any e = true → L e.on = true := by
      intro m
      induction m with
      | zero =>
        intro i hm hi hL
        refine ⟨i, hi, hL, fun o ho e he hb => ?_⟩
        have : e.on ∈ depsOf ops i := by
          unfold depsOf
          rw [ho]
          exact List.mem_map.2 ⟨e, List.mem_filter.2 ⟨by simpa using he, hb⟩, rfl⟩
        have := (hall i hi).2 _ this
        omega
      | succ m ih =>
        intro i hm hi hL
        by_cases h : ∀ o, ops[i]? = some o → ∀ e ∈ o.after, Region.binds .any e = true → L e.on = true
        · exact ⟨i, hi, hL, h⟩
        · obtain ⟨o, ho⟩ := Classical.not_forall.1 h
          obtain ⟨ho, h2⟩ := Classical.not_imp.1 ho
          obtain ⟨e, h3⟩ := Classical.not_forall.1 h2
          obtain ⟨he, h4⟩ := Classical.not_imp.1 h3
          obtain ⟨hb, h5⟩ := Classical.not_imp.1 h4
          have hd : e.on ∈ depsOf ops i := by
            unfold depsOf
            rw [ho]
            exact List.mem_map.2 ⟨e, List.mem_filter.2 ⟨by simpa using he, hb⟩, rfl⟩
          have hlt := (hall i hi).2 _ hd
          exact ih e.on (by omega) (by omega) (by simpa using h5)
    exact key i i (Nat.le_refl _) hi hL
  · exact Nat.le_trans (List.length_filter_le _ _) (by simp)
  · have e : (fun k => (Array.replicate ops.size false).getD k false) = fun _ => false := by
      funext k
      unfold Array.getD
      split <;> simp
    rw [e]
    exact ⟨g0, ⟨rfl, rfl, fun _ _ => rfl, fun i hi h => by cases h⟩, hs0, fun i hi h => by cases h⟩
def freeB (ops : Array Oper) (n t : Nat) : Bool := (List.range n).all (fun j => !decide (dst ops j = some t))
/-- Values put into slots one after the other. -/
def putAll : List (Option Nat) → List Value → Act → Act
  | d :: D, v :: V, a => putAll D V (a.put d v)
  | _, _, a => a
theorem putAll_map (f : Nat → Option Nat) (g : Nat → Value) : ∀ (l : List Nat) (a : Act), putAll (l.map f) (l.map g) a = l.foldl (fun a i => a.put (f i) (g i)) a
  | [], a => rfl
  | i :: l, a => putAll_map f g l _
theorem after_fold (V : Nat → Value) (a0 : Act) : ∀ n, after ops V a0 n = (List.range n).foldl (fun a i => a.put (dst ops i) (V i)) a0
  | 0 => rfl
  | n + 1 => by
    rw [List.range_succ, List.foldl_append]
    unfold after
    rw [after_fold V a0 n]
    rfl
theorem map_getD (VL : List Value) : (List.range VL.length).map (fun i => VL.getD i undef) = VL := by
  apply List.ext_getElem
  · simp
  · intro i h1 h2
    simp at h1
    simp [h1]
/-- The same, its slots and values as lists. -/
theorem region_lists {G : Type} {id : Nat} {a0 : Act} {w0 : World} (hm : P.follows .mixedOrders = true) (D : List (Option Nat)) (VL : G → List Value) (S : G → (Nat → Bool) → World → Prop) (g0 : G) (n m : Nat) (hn : ops.size = n) (hD : (List.range n).map (dst ops) = D) (hV : ∀ g, (VL g).length = n) (hok : okB ops m = true) (hsz : a0.tmps.size = m)
    (hs0 : S g0 (fun _ => false) w0.drew)
    (step : ∀ i, i < n → ∀ g L a w, S g L w → L i = false → (∀ j, ancB ops i j = true → L j = true) → (∀ j, decide (j < n) = true → ancB ops j i = true → L j = false) → (∀ t, freeB ops n t = true → a.tmps[t]?.getD undef = a0.eval (.tmp t)) →
      (∀ j d, ancB ops i j = true → dst ops j = some d → a.tmps[d]?.getD undef = (VL g).getD j undef) → ∀ K : Act → World → Prop, (∀ g' w', (∀ j, j < n → L j = true → (VL g').getD j undef = (VL g).getD j undef) → S g' (mark L i) w' → K (a.put (D.getD i none) ((VL g').getD i undef)) w') → wpOp P ops Q i K a w)
    (fin : ∀ g L w, (∀ i, decide (i < n) = true → L i = true) → S g L w → Q .normal (putAll D (VL g) a0) w) : (Code.region id ops true).wp P Q a0 w0 := by
  subst hD
  refine region_staged hm (fun g i => (VL g).getD i undef) S g0 n m hn hok hsz hs0 (fun i hi g L a w hs hL h1 h2 h3 h4 K hK => ?_) (fun g L w hall hs => ?_)
  · refine step i hi g L a w hs hL h1 (fun j hj => h2 j (of_decide_eq_true hj)) (fun t ht => ?_) (fun j d hj hd => (eval_tmp a d).trans (h4 j d hj hd)) K (fun g' w' hag hw' => ?_)
    · refine (eval_tmp a t).trans (h3 t fun j hj e => ?_)
      have := List.all_eq_true.1 ht j (List.mem_range.2 hj)
      simp [e] at this
    · have e : ((List.range n).map (dst ops)).getD i none = dst ops i := by simp [hi]
      rw [e]
      exact hK g' w' hag hw'
  · have e : after ops (fun i => (VL g).getD i undef) a0 n = putAll ((List.range n).map (dst ops)) (VL g) a0 := by
      rw [after_fold]
      conv => rhs; rw [← map_getD (VL g), hV]
      rw [putAll_map]
    rw [e]
    exact fin g L w (fun i hi => hall i (of_decide_eq_true hi)) hs
end
end Go.Proofs.Ytpjbmbipkmpkhaa.Rgn
