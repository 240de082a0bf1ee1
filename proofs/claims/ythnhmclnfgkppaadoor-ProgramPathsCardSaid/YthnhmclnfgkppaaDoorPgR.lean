/-
  Texts on no program: a region that draws its order, inside a fence, also within a round: what holds behind each operation, whatever the order.
-/
import Derived.Test.YthnhmclnfgkppaaDoorPgA
import Derived.OrdersIn
namespace Go.Proofs.YthnhmclnfgkppaaDoor.PgR
open Go.RowKit
set_option linter.unusedVariables false

def mark (L : Nat → Bool) (i : Nat) : Nat → Bool := fun k => if k = i then true else L k
theorem mark_ne {L : Nat → Bool} {i k : Nat} (h : k ≠ i) : mark L i k = L k := if_neg h
theorem mark_self {L : Nat → Bool} {i : Nat} : mark L i i = true := if_pos rfl
section
variable {F : Fence} {n : Nat} {P : Program} {md : Region.Mode} {ops : Array Oper} {Q : Exit → Act → World → Prop}
theorem anyIn_inv (Inv : (Nat → Bool) → Act → World → Prop)
    (step : ∀ L a w i, Inv L a w → i < ops.size → L i = false → (∀ o, ops[i]? = some o → ∀ e ∈ o.after, Region.binds md e = true → L e.on = true) → ∀ K : Act → World → Prop, (∀ a' w', Inv (mark L i) a' w' → K a' w') → wpOpIn F n P ops Q i K a w)
    (fin : ∀ L a w, Inv L a w → (∀ i, i < ops.size → L i = true) → Q .normal a w)
    (live : ∀ L : Nat → Bool, (∃ i, i < ops.size ∧ L i = false) → ∃ i, i < ops.size ∧ L i = false ∧ ∀ o, ops[i]? = some o → ∀ e ∈ o.after, Region.binds md e = true → L e.on = true) :
    ∀ (fuel : Nat) (listed : Array Bool) (a : Act) (w : World), listed.size = ops.size → ((List.range ops.size).filter (fun i => !listed.getD i true)).length ≤ fuel → Inv (fun k => listed.getD k false) a w → wpAnyIn F n P md ops Q fuel listed a w := by
  have key : ∀ (listed : Array Bool) (i : Nat), listed.size = ops.size → i < ops.size → listed.getD i true = listed.getD i false := by
    intro listed i h1 h2
    simp [h1, h2]
  have allset : ∀ (listed : Array Bool), listed.size = ops.size → Region.ready md ops listed = [] → ∀ i, i < ops.size → listed.getD i false = true := by
    intro listed hs hr i hi
    cases hb : listed.getD i false with
    | true => rfl
    | false =>
      obtain ⟨j, hj, hjf, hjo⟩ := live (fun k => listed.getD k false) ⟨i, hi, hb⟩
      have : j ∈ Region.ready md ops listed := mem_ready.2 ⟨by rw [key listed j hs hj]; exact hjf, ops[j], Array.getElem?_eq_getElem hj, hjo _ (Array.getElem?_eq_getElem hj)⟩
      rw [hr] at this
      cases this
  intro fuel
  induction fuel with
  | zero =>
    intro listed a w hs hf hI
    have hall : ∀ i, i < ops.size → listed.getD i false = true := by
      intro i hi
      rw [← key listed i hs hi]
      cases hb : listed.getD i true with
      | true => rfl
      | false =>
        have : i ∈ (List.range ops.size).filter (fun i => !listed.getD i true) := List.mem_filter.2 ⟨List.mem_range.2 hi, by rw [hb]; rfl⟩
        have := List.length_pos_of_mem this
        omega
    refine ⟨?_, fin _ a w hI hall⟩
    apply List.eq_nil_iff_forall_not_mem.2
    intro j hj
    obtain ⟨h0, o, ho, _⟩ := mem_ready.1 hj
    have hj2 : j < ops.size := (Array.getElem?_eq_some_iff.1 ho).1
    rw [key listed j hs hj2, hall j hj2] at h0
    cases h0
  | succ fuel ih =>
    intro listed a w hs hf hI
    refine ⟨fun hr => fin _ a w hI (allset listed hs hr), fun i hi => ?_⟩
    obtain ⟨h0, o, ho, hall⟩ := mem_ready.1 hi
    have hi2 : i < ops.size := (Array.getElem?_eq_some_iff.1 ho).1
    refine step _ a w i hI hi2 (by rw [← key listed i hs hi2]; exact h0) (fun o' ho' e he hb => ?_) _ fun a' w' hI' => ih (listed.setIfInBounds i true) a' w' (by simpa using hs) ?_ ?_
    · rw [ho] at ho'
      injection ho' with ho'
      subst ho'
      exact hall e he hb
    · have hlt : ((List.range ops.size).filter (fun k => !(listed.setIfInBounds i true).getD k true)).length < ((List.range ops.size).filter (fun k => !listed.getD k true)).length := by
        have hsub : ((List.range ops.size).filter (fun k => !(listed.setIfInBounds i true).getD k true)) = ((List.range ops.size).filter (fun k => !listed.getD k true)).filter (fun k => k != i) := by
          rw [List.filter_filter]
          apply List.filter_congr
          intro k hk
          by_cases hki : k = i
          · subst hki
            simp [hs, hi2]
          · rw [getD_set_ne true (Ne.symm hki)]
            simp [hki]
        rw [hsub]
        have hm : i ∈ (List.range ops.size).filter (fun k => !listed.getD k true) := List.mem_filter.2 ⟨List.mem_range.2 hi2, by rw [h0]; rfl⟩
        exact List.length_filter_lt_length_iff_exists.2 ⟨i, hm, by simp⟩
      omega
    · have : (fun k => (listed.setIfInBounds i true).getD k false) = mark (fun k => listed.getD k false) i := by
        funext k
        unfold mark
        by_cases hk : k = i
        · subst hk
          simp [hs, hi2]
        · rw [if_neg hk, getD_set_ne false (Ne.symm hk)]
      rw [this]
      exact hI'
/-- An operation that is carried out. -/
theorem opIn_of {i : Nat} {o : Oper} {a : Act} {w : World} {K : Act → World → Prop} (h : ops[i]? = some o) (hg : o.guard = none) (hK : o.wpIn F n P a w K Q) : wpOpIn F n P ops Q i K a w := by
  unfold wpOpIn
  rw [h]
  have hw : Region.wanted o (yielded ops a.tmps) = true := by simp [Region.wanted, hg]
  simp only [hw, if_true]
  exact hK
theorem eval_same {a : Act} {d : Nat} {v : Value} (h : d < a.tmps.size) : (a.put (some d) v).eval (.tmp d) = v := by
  simp [Act.eval, Act.put, h]
theorem eval_other {a : Act} {d k : Nat} {v : Value} (h : d ≠ k) : (a.put (some d) v).eval (.tmp k) = a.eval (.tmp k) := by
  simp [Act.eval, Act.put, Array.getElem?_setIfInBounds_ne h]
def dst (ops : Array Oper) (i : Nat) : Option Nat := (ops[i]?.map (·.dst)).getD none
/-- What holds of an activation when the operations of L are over: each left its value V, all else is as it was. -/
structure Held (ops : Array Oper) (V : Nat → Value) (a0 : Act) (L : Nat → Bool) (a : Act) : Prop where
  sz : a.tmps.size = a0.tmps.size
  df : a.defers = a0.defers
  old : ∀ t, (∀ i, i < ops.size → dst ops i ≠ some t) → a.eval (.tmp t) = a0.eval (.tmp t)
  val : ∀ i, i < ops.size → L i = true → ∀ d, dst ops i = some d → a.eval (.tmp d) = V i
theorem Held.put {V : Nat → Value} {a0 a : Act} {L : Nat → Bool} (h : Held ops V a0 L a) {i : Nat} (hi : i < ops.size) (hd : ∀ d, dst ops i = some d → d < a0.tmps.size)
    (hinj : ∀ j, j < ops.size → ∀ d, dst ops i = some d → dst ops j = some d → j = i) : Held ops V a0 (mark L i) (a.put (dst ops i) (V i)) := by
  cases hdi : dst ops i with
  | none =>
    refine ⟨h.sz, h.df, h.old, fun j hj hL d hjd => ?_⟩
    by_cases e : j = i
    · subst e; rw [hdi] at hjd; cases hjd
    · rw [mark_ne e] at hL; exact h.val j hj hL d hjd
  | some d =>
    refine ⟨by simp [Act.put, h.sz], h.df, fun t ht => (eval_other (fun e => ht i hi (by rw [hdi, e]))).trans (h.old t ht), fun j hj hL x hjx => ?_⟩
    by_cases e : j = i
    · subst e
      rw [hdi] at hjx
      cases hjx
      exact eval_same (by rw [h.sz]; exact hd _ hdi)
    · rw [mark_ne e] at hL
      rw [eval_other (fun e2 => e (hinj j hj d hdi (by rw [hjx, e2])))]
      exact h.val j hj hL x hjx
theorem rep_false (m i : Nat) : (Array.replicate m false).getD i false = false := by
  unfold Array.getD
  split <;> simp
/-- **A region that draws its order**: all operations but the last read alone (or hold a call that leaves what S says); the last one waits for all. -/
theorem region_held {id : Nat} {a0 : Act} {w0 : World} (hm : P.follows .mixedOrders = true) (V : Nat → Value) (S : Bool → World → Prop) (N : Nat) (hN : ops.size = N + 1)
    (hs0 : S false w0.drew) (hd : ∀ i, i < N + 1 → ∀ d, dst ops i = some d → d < a0.tmps.size) (hinj : ∀ i, i < N + 1 → ∀ j, j < N + 1 → ∀ d, dst ops i = some d → dst ops j = some d → j = i)
    (hbe : ∀ i, i < N + 1 → ∀ o, ops[i]? = some o → ∀ e ∈ o.after, e.on < i) (hlast : ∀ o, ops[N]? = some o → ∀ i, i < N → ∃ e ∈ o.after, Region.binds .any e = true ∧ e.on = i)
    (step : ∀ i, i < N → ∀ a w, S false w → (∀ t, (∀ j, j < ops.size → dst ops j ≠ some t) → a.eval (.tmp t) = a0.eval (.tmp t)) → (∀ o, ops[i]? = some o → ∀ e ∈ o.after, Region.binds .any e = true → ∀ d, dst ops e.on = some d → a.eval (.tmp d) = V e.on) →
      ∀ K : Act → World → Prop, (∀ w', S false w' → K (a.put (dst ops i) (V i)) w') → wpOpIn F n P ops Q i K a w)
    (last : ∀ a w, S false w → (∀ t, (∀ j, j < ops.size → dst ops j ≠ some t) → a.eval (.tmp t) = a0.eval (.tmp t)) → (∀ j, j < N → ∀ d, dst ops j = some d → a.eval (.tmp d) = V j) →
      ∀ K : Act → World → Prop, (∀ w', S true w' → K (a.put (dst ops N) (V N)) w') → wpOpIn F n P ops Q N K a w)
    (fin : ∀ a w, Held ops V a0 (fun _ => true) a → S true w → Q .normal a w) : (Code.region id ops true).wpIn F n P Q a0 w0 := by
  refine wpIn_region_any hm ?_
  refine anyIn_inv (fun L a w => Held ops V a0 L a ∧ S (L N) w ∧ (L N = true → ∀ i, i < N → L i = true)) ?_ ?_ ?_ ops.size _ a0 _ (by simp) ?_ ?_
  · rintro L a w i ⟨hh, hs, hc⟩ hi hL hr K hK
    rw [hN] at hi
    by_cases e : i = N
    · subst e
      obtain ⟨o, ho⟩ : ∃ o, ops[i]? = some o := ⟨_, Array.getElem?_eq_getElem (by omega)⟩
      have hall : ∀ j, j < i → L j = true := fun j hj => by
        obtain ⟨x, hx, hb, hon⟩ := hlast o ho j hj
        rw [← hon]
        exact hr o ho x hx hb
      rw [hL] at hs
      refine last a w hs hh.old (fun j hj d hjd => hh.val j (by omega) (hall j hj) d hjd) K fun w' hw' => hK _ _ ⟨hh.put (by omega) (hd i (by omega)) (fun j hj => hinj i (by omega) j (by omega)), by rw [mark_self]; exact hw', fun _ j hj => by rw [mark_ne (by omega)]; exact hall j hj⟩
    · have hLN : L N = false := by
        cases h : L N with
        | false => rfl
        | true => rw [hc h i (by omega)] at hL; cases hL
      rw [hLN] at hs
      refine step i (by omega) a w hs hh.old (fun o ho x hx hb d hd' => ?_) K fun w' hw' => hK _ _ ⟨hh.put (by omega) (hd i (by omega)) (fun j hj => hinj i (by omega) j (by omega)), by rw [mark_ne (Ne.symm e), hLN]; exact hw', fun h => by rw [mark_ne (Ne.symm e), hLN] at h; cases h⟩
      exact hh.val _ (by have := hbe i (by omega) o ho x hx; omega) (hr o ho x hx hb) d hd'
  · rintro L a w ⟨hh, hs, _⟩ hall
    refine fin a w ⟨hh.sz, hh.df, hh.old, fun i hi _ => hh.val i hi (hall i hi)⟩ ?_
    rw [hall N (by omega)] at hs
    exact hs
  · rintro L ⟨i, hi, hL⟩
    have key : ∀ m i, i ≤ m → i < ops.size → L i = false → ∃ i, i < ops.size ∧ L i = false ∧ ∀ o, ops[i]? = some o → ∀ e ∈ o.after, Region.binds .any e = true → L e.on = true := by
      intro m
      induction m with
      | zero =>
        intro i hm hi hL
        refine ⟨i, hi, hL, fun o ho e he _ => ?_⟩
        have := hbe i (by omega) o ho e he
        omega
      | succ m ih =>
        intro i hm hi hL
        by_cases h : ∀ o, ops[i]? = some o → ∀ e ∈ o.after, Region.binds .any e = true → L e.on = true
        · exact ⟨i, hi, hL, h⟩
        · obtain ⟨o, ho⟩ := Classical.not_forall.1 h
          obtain ⟨ho, h2⟩ := Classical.not_imp.1 ho
          obtain ⟨e, h3⟩ := Classical.not_forall.1 h2
          obtain ⟨he, h4⟩ := Classical.not_imp.1 h3
          obtain ⟨_, h5⟩ := Classical.not_imp.1 h4
          have hlt := hbe i (by omega) o ho e he
          exact ih e.on (by omega) (by omega) (by simpa using h5)
    exact key i i (Nat.le_refl _) hi hL
  · exact Nat.le_trans (List.length_filter_le _ _) (by simp)
  · refine ⟨⟨rfl, rfl, fun _ _ => rfl, fun i hi h => ?_⟩, ?_, fun h => ?_⟩
    · rw [rep_false] at h; cases h
    · show S ((Array.replicate ops.size false).getD N false) _
      rw [rep_false]; exact hs0
    · have h' : (Array.replicate ops.size false).getD N false = true := h
      rw [rep_false] at h'; cases h'
theorem eval_tmp (a : Act) (t : Nat) : a.tmps[t]?.getD undef = a.eval (.tmp t) := by
  simp [Act.eval]
/-- What the tables of a region say, to be reckoned. -/
def okB (ops : Array Oper) (N m : Nat) : Bool :=
  decide (ops.size = N + 1) && (List.range (N + 1)).all (fun i => match dst ops i with
    | none => true
    | some d => decide (d < m) && (List.range (N + 1)).all (fun j => decide (j = i) || !decide (dst ops j = some d))) &&
  (List.range (N + 1)).all (fun i => match ops[i]? with
    | none => true
    | some o => o.after.all (fun e => decide (e.on < i))) &&
  (List.range N).all (fun i => match ops[N]? with
    | none => true
    | some o => o.after.any (fun e => Region.binds .any e && decide (e.on = i)))
def freeB (ops : Array Oper) (t : Nat) : Bool := (List.range ops.size).all (fun j => !decide (dst ops j = some t))
def depB (ops : Array Oper) (i j d : Nat) : Bool := decide (dst ops j = some d) && (match ops[i]? with
  | none => false
  | some o => o.after.any (fun e => Region.binds .any e && decide (e.on = j)))
theorem region_held' {id : Nat} {a0 : Act} {w0 : World} (hm : P.follows .mixedOrders = true) (V : Nat → Value) (S : Bool → World → Prop) (N m : Nat) (hok : okB ops N m = true) (hsz : a0.tmps.size = m)
    (hs0 : S false w0.drew)
    (step : ∀ i, i < N → ∀ a w, S false w → (∀ t, freeB ops t = true → a.eval (.tmp t) = a0.eval (.tmp t)) → (∀ j d, depB ops i j d = true → a.eval (.tmp d) = V j) →
      ∀ K : Act → World → Prop, (∀ w', S false w' → K (a.put (dst ops i) (V i)) w') → wpOpIn F n P ops Q i K a w)
    (last : ∀ a w, S false w → (∀ t, freeB ops t = true → a.eval (.tmp t) = a0.eval (.tmp t)) → (∀ j d, depB ops N j d = true → a.eval (.tmp d) = V j) →
      ∀ K : Act → World → Prop, (∀ w', S true w' → K (a.put (dst ops N) (V N)) w') → wpOpIn F n P ops Q N K a w)
    (fin : ∀ a w, a.tmps.size = m → a.defers = a0.defers → (∀ t, freeB ops t = true → a.eval (.tmp t) = a0.eval (.tmp t)) → S true w → Q .normal a w) : (Code.region id ops true).wpIn F n P Q a0 w0 := by
  unfold okB at hok
  simp only [Bool.and_eq_true, decide_eq_true_eq, List.all_eq_true, List.mem_range] at hok
  obtain ⟨⟨⟨hN, h1⟩, h2⟩, h3⟩ := hok
  have hfree : ∀ t, freeB ops t = true → ∀ j, j < ops.size → dst ops j ≠ some t := by
    intro t h j hj e
    have := List.all_eq_true.1 h j (List.mem_range.2 hj)
    simp [e] at this
  have hfree' : ∀ t, (∀ j, j < ops.size → dst ops j ≠ some t) → freeB ops t = true := by
    intro t h
    refine List.all_eq_true.2 fun j hj => ?_
    simpa using h j (List.mem_range.1 hj)
  have hdep : ∀ i j d, depB ops i j d = true → dst ops j = some d ∧ ∃ o, ops[i]? = some o ∧ ∃ e ∈ o.after, Region.binds .any e = true ∧ e.on = j := by
    intro i j d h
    unfold depB at h
    rw [Bool.and_eq_true] at h
    refine ⟨of_decide_eq_true h.1, ?_⟩
    have h' := h.2
    cases ho : ops[i]? with
    | none => rw [ho] at h'; cases h'
    | some o =>
      rw [ho] at h'
      simp only at h'
      obtain ⟨k, hk, hb⟩ := Array.any_eq_true.1 h'
      rw [Bool.and_eq_true] at hb
      exact ⟨o, rfl, _, Array.getElem_mem hk, hb.1, of_decide_eq_true hb.2⟩
  refine region_held hm V S N hN hs0 (fun i hi d hd => ?_) (fun i hi j hj d hd hd' => ?_) (fun i hi o ho e he => ?_) (fun o ho i hi => ?_) (fun i hi a w hs hold hv K hK => ?_) (fun a w hs hold hv K hK => ?_) (fun a w hh hs => ?_)
  · have := h1 i hi
    rw [hd] at this
    simp only [Bool.and_eq_true, decide_eq_true_eq] at this
    rw [hsz]
    exact this.1
  · have := h1 i hi
    rw [hd] at this
    simp only [Bool.and_eq_true, decide_eq_true_eq, List.all_eq_true, List.mem_range, Bool.or_eq_true] at this
    rcases this.2 j hj with h | h
    · exact h
    · simp [hd'] at h
  · have := h2 i hi
    rw [ho] at this
    simp only at this
    exact of_decide_eq_true (Array.all_eq_true_iff_forall_mem.1 this e he)
  · have := h3 i hi
    rw [ho] at this
    simp only at this
    obtain ⟨k, hk, hb⟩ := Array.any_eq_true.1 this
    rw [Bool.and_eq_true] at hb
    exact ⟨_, Array.getElem_mem hk, hb.1, of_decide_eq_true hb.2⟩
  · refine step i hi a w hs (fun t ht => hold t (hfree t ht)) (fun j d h => ?_) K hK
    obtain ⟨hd, o, ho, e, he, hb, rfl⟩ := hdep i j d h
    exact hv o ho e he hb d hd
  · refine last a w hs (fun t ht => hold t (hfree t ht)) (fun j d h => ?_) K hK
    obtain ⟨hd, o, ho, e, he, hb, rfl⟩ := hdep N j d h
    have hlt : e.on < N := by
      have := h2 N (by omega)
      rw [ho] at this
      simp only at this
      exact of_decide_eq_true (Array.all_eq_true_iff_forall_mem.1 this e he)
    exact hv _ hlt d hd
  · exact fin a w (by rw [hh.sz, hsz]) hh.df (fun t ht => hh.old t (hfree t ht)) hs
end
end Go.Proofs.YthnhmclnfgkppaaDoor.PgR
