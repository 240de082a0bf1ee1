/-
  The region of cells.New that makes the map and its rows in whatever order Go picks: what holds when all is done.
-/
import Derived.Test.YtpjbmbipkmpkhaaCelM
import Derived.Orders
namespace Go.Proofs.Ytpjbmbipkmpkhaa.CelR
open Go.RowKit
open PlainT BlkW CelS CelM
set_option linter.unusedVariables false
set_option maxRecDepth 100000

/-! ### Any region: what holds behind each operation, whatever the order. -/
def mark (L : Nat → Bool) (i : Nat) : Nat → Bool := fun k => if k = i then true else L k
theorem any_inv {P : Program} {md : Region.Mode} {ops : Array Oper} {Q : Exit → Act → World → Prop} (Inv : (Nat → Bool) → Act → World → Prop)
    (step : ∀ L a w i, Inv L a w → i < ops.size → L i = false → (∀ o, ops[i]? = some o → ∀ e ∈ o.after, Region.binds md e = true → L e.on = true) → ∀ K : Act → World → Prop, (∀ a' w', Inv (mark L i) a' w' → K a' w') → wpOp P ops Q i K a w)
    (fin : ∀ L a w, Inv L a w → (∀ i, i < ops.size → L i = true) → Q .normal a w)
    (live : ∀ L : Nat → Bool, (∃ i, i < ops.size ∧ L i = false) → ∃ i, i < ops.size ∧ L i = false ∧ ∀ o, ops[i]? = some o → ∀ e ∈ o.after, Region.binds md e = true → L e.on = true) :
    ∀ (fuel : Nat) (listed : Array Bool) (a : Act) (w : World), listed.size = ops.size → ((List.range ops.size).filter (fun i => !listed.getD i true)).length ≤ fuel → Inv (fun k => listed.getD k false) a w → wpAny P md ops Q fuel listed a w := by
  have key : ∀ (listed : Array Bool) (i : Nat), listed.size = ops.size → i < ops.size → listed.getD i true = listed.getD i false := by
    intro listed i h1 h2
    simp [h1, h2]
  have allset : ∀ (listed : Array Bool), listed.size = ops.size → Region.ready md ops listed = [] → ∀ i, i < ops.size → listed.getD i false = true := by
    intro listed hs hr i hi
    cases hb : listed.getD i false with
    | true => rfl
    | false =>
      obtain ⟨j, hj, hjf, hjo⟩ := live (fun k => listed.getD k false) ⟨i, hi, hb⟩
      have : j ∈ Region.ready md ops listed := mem_ready.2 ⟨by rw [key listed j hs hj]; exact hjf, ops[j], Array.getElem?_eq_getElem hj, hjo _ (Array.getElem?_eq_getElem hj)⟩
      rw [hr] at this
      cases this
  intro fuel
  induction fuel with
  | zero =>
    intro listed a w hs hf hI
    have hall : ∀ i, i < ops.size → listed.getD i false = true := by
      intro i hi
      rw [← key listed i hs hi]
      cases hb : listed.getD i true with
      | true => rfl
      | false =>
        have : i ∈ (List.range ops.size).filter (fun i => !listed.getD i true) := List.mem_filter.2 ⟨List.mem_range.2 hi, by rw [hb]; rfl⟩
        have := List.length_pos_of_mem this
        omega
    refine ⟨?_, fin _ a w hI hall⟩
    apply List.eq_nil_iff_forall_not_mem.2
    intro j hj
    obtain ⟨h0, o, ho, _⟩ := mem_ready.1 hj
    have hj2 : j < ops.size := (Array.getElem?_eq_some_iff.1 ho).1
    rw [key listed j hs hj2, hall j hj2] at h0
    cases h0
  | succ fuel ih =>
    intro listed a w hs hf hI
    refine ⟨fun hr => fin _ a w hI (allset listed hs hr), fun i hi => ?_⟩
    obtain ⟨h0, o, ho, hall⟩ := mem_ready.1 hi
    have hi2 : i < ops.size := (Array.getElem?_eq_some_iff.1 ho).1
    refine step _ a w i hI hi2 (by rw [← key listed i hs hi2]; exact h0) (fun o' ho' e he hb => ?_) _ fun a' w' hI' => ih (listed.setIfInBounds i true) a' w' (by simpa using hs) ?_ ?_
    · rw [ho] at ho'
      injection ho' with ho'
      subst ho'
      exact hall e he hb
    · have hlt : ((List.range ops.size).filter (fun k => !(listed.setIfInBounds i true).getD k true)).length < ((List.range ops.size).filter (fun k => !listed.getD k true)).length := by
        have hsub : ((List.range ops.size).filter (fun k => !(listed.setIfInBounds i true).getD k true)) = ((List.range ops.size).filter (fun k => !listed.getD k true)).filter (fun k => k != i) := by
          rw [List.filter_filter]
          apply List.filter_congr
          intro k hk
          by_cases hki : k = i
          · subst hki
            simp [hs, hi2]
          · rw [getD_set_ne true (Ne.symm hki)]
            simp [hki]
        rw [hsub]
        have hm : i ∈ (List.range ops.size).filter (fun k => !listed.getD k true) := List.mem_filter.2 ⟨List.mem_range.2 hi2, by rw [h0]; rfl⟩
        exact List.length_filter_lt_length_iff_exists.2 ⟨i, hm, by simp⟩
      omega
    · have : (fun k => (listed.setIfInBounds i true).getD k false) = mark (fun k => listed.getD k false) i := by
        funext k
        unfold mark
        by_cases hk : k = i
        · subst hk
          simp [hs, hi2]
        · rw [if_neg hk, getD_set_ne false (Ne.symm hk)]
      rw [this]
      exact hI'

/-- An operation that yields a value. -/
theorem op_value {P : Program} {ops : Array Oper} {Q : Exit → Act → World → Prop} {i : Nat} {o : Oper} {v : Value} {a : Act} {w w' : World} {K : Act → World → Prop} (h : ops[i]? = some o) (hg : o.guard = none) (hr : (execOp a.eval o).run P w = .ok (.value v) w') (hK : K (a.put o.dst v) w') : wpOp P ops Q i K a w := by
  unfold wpOp
  rw [h]
  have hw : Region.wanted o (yielded ops a.tmps) = true := by simp [Region.wanted, hg]
  simp only [hw, if_true]
  left
  unfold Oper.wp
  rw [hr]
  exact hK
/-- An operation that yields none. -/
theorem op_skip {P : Program} {ops : Array Oper} {Q : Exit → Act → World → Prop} {i : Nat} {o : Oper} {a : Act} {w w' : World} {K : Act → World → Prop} (h : ops[i]? = some o) (hg : o.guard = none) (hr : (execOp a.eval o).run P w = .ok .skip w') (hK : K (a.put o.dst undef) w') : wpOp P ops Q i K a w := by
  unfold wpOp
  rw [h]
  have hw : Region.wanted o (yielded ops a.tmps) = true := by simp [Region.wanted, hg]
  simp only [hw, if_true]
  left
  unfold Oper.wp
  rw [hr]
  exact hK
theorem eval_same {a : Act} {d : Nat} {v : Value} (h : d < a.tmps.size) : (a.put (some d) v).eval (.tmp d) = v := by
  simp [Act.eval, Act.put, h]
theorem eval_other {a : Act} {d k : Nat} {v : Value} (h : d ≠ k) : (a.put (some d) v).eval (.tmp k) = a.eval (.tmp k) := by
  simp [Act.eval, Act.put, Array.getElem?_setIfInBounds_ne h]

/-! ### This region. -/
def regionOf (n : Nat) : Code → Option (Array Oper)
  | .region _ ops _ => if ops.size = n then some ops else none
  | .seq a b => match regionOf n a with
    | some c => some c
    | none => regionOf n b
  | .cond _ a b => match regionOf n a with
    | some c => some c
    | none => regionOf n b
  | .loop c => regionOf n c
  | .block _ c => regionOf n c
  | .scope c => regionOf n c
  | _ => none
noncomputable def ops : Array Oper := (Try.f65.body.bind (regionOf 25)).getD #[]
theorem ops_size : ops.size = 25 := by kernel_rfl
/-- Where each operation leaves its value; what it waits for. -/
def D : Nat → Option Nat := fun k => ([some 42, some 43, none, some 44, some 45, some 46, none, some 47, none, some 48, none, some 49, none, some 50, some 51, none, some 52, none, some 53, none, some 54, some 55, some 56, some 6, some 7] : List (Option Nat)).getD k none
def Pr : Nat → List Nat := fun k => ([[], [], [0, 1], [], [3], [4], [0, 5], [], [0, 7], [], [0, 9], [], [0, 11], [], [13], [0, 14], [], [0, 16], [], [0, 18], List.range 20, List.range 21, List.range 22, List.range 23, List.range 24] : List (List Nat)).getD k []
theorem D_inj : ∀ j, j < 25 → ∀ k, k < 25 → j ≠ k → ∀ d, D j = some d → D k = some d → False := by
  intro j hj k hk hne d h1 h2
  have : ∀ j < 25, ∀ k < 25, j ≠ k → D j = D k → D j = none := by decide
  have := this j hj k hk hne (h1.trans h2.symm)
  rw [h1] at this
  cases this
theorem D_ok : ∀ j, j < 25 → ∀ d, D j = some d → d < 57 ∧ d ≠ 1 ∧ d ≠ 3 ∧ d ≠ 9 ∧ d ≠ 10 ∧ d ≠ 11 := by
  intro j hj d h
  have : ∀ j < 25, D j = none ∨ ((D j).getD 0 < 57 ∧ (D j).getD 0 ≠ 1 ∧ (D j).getD 0 ≠ 3 ∧ (D j).getD 0 ≠ 9 ∧ (D j).getD 0 ≠ 10 ∧ (D j).getD 0 ≠ 11) := by decide
  have := this j hj
  rw [h] at this
  simpa using this
/-- What the region finds. -/
structure Kon where
  w0 : World
  cb : Nat
  no : Nat
  nt : Nat
  gd : Nat
  nd : Nat
  gh : Nat
  nh : Nat
  gn : Nat
  nn : Nat
def sl (g n : Nat) : Value := .slice (some ⟨g, 0, none⟩) n n
def val (K : Kon) (g : Nat → Nat) (k : Nat) : Value :=
  match k with
  | 0 => .map (some (g 0))
  | 1 => sl K.gd K.nd
  | 3 => .pointer (some ⟨K.cb, 1, none⟩)
  | 4 => .int .i64 K.no
  | 5 => sl (g 5) K.no
  | 7 => sl (g 7) 1
  | 9 => sl (g 9) 1
  | 11 => sl (g 11) 1
  | 13 => .int .i64 K.nt
  | 14 => sl (g 14) K.nt
  | 16 => sl K.gh K.nh
  | 18 => sl K.gn K.nn
  | 20 => .map (some (g 0))
  | 21 => .agg #[.int .i32 0, .int .u32 0, .map (some (g 0))]
  | 22 => .pointer (some ⟨g 22, 0, none⟩)
  | 23 => .pointer (some ⟨g 22, 0, none⟩)
  | 24 => .int .i64 0
  | _ => undef
def isMake (k : Nat) : Prop := k = 5 ∨ k = 7 ∨ k = 9 ∨ k = 11 ∨ k = 14
def cnt (K : Kon) (k : Nat) : Nat := if k = 5 then K.no else if k = 14 then K.nt else 1
def src (k : Int) : Nat := if k = 1 then 1 else if k = 2 then 5 else if k = 3 then 7 else if k = 4 then 9 else if k = 5 then 11 else if k = 6 then 14 else if k = 7 then 16 else 18
def ins (k : Int) : Nat := if k = 1 then 2 else if k = 2 then 6 else if k = 3 then 8 else if k = 4 then 10 else if k = 5 then 12 else if k = 6 then 15 else if k = 7 then 17 else 19
def C (K : Kon) (L : Nat → Bool) (g : Nat → Nat) (k : Int) : Option Value := if 1 ≤ k ∧ k ≤ 8 then (if L (ins k) = true then some (val K g (src k)) else none) else none
def up (g : Nat → Nat) (i x : Nat) : Nat → Nat := fun k => if k = i then x else g k
structure Inv (K : Kon) (L : Nat → Bool) (a : Act) (w : World) (g : Nat → Nat) : Prop where
  sz : a.tmps.size = 57
  df : a.defers = []
  f1 : a.eval (.tmp 1) = .int .i64 K.nt
  f3 : a.eval (.tmp 3) = .pointer (some ⟨K.cb, 0, none⟩)
  f9 : a.eval (.tmp 9) = sl K.gd K.nd
  f10 : a.eval (.tmp 10) = sl K.gh K.nh
  f11 : a.eval (.tmp 11) = sl K.gn K.nn
  e : ∀ k, k < 25 → L k = true → ∀ d, D k = some d → a.eval (.tmp d) = val K g k
  old : Below K.w0.heap.size K.w0 w
  row : ∀ k, isMake k → L k = true → Row w (g k) (List.replicate (cnt K k) 0) ∧ K.w0.heap.size ≤ g k
  ap : ∀ j k, isMake j → isMake k → L j = true → L k = true → g j = g k → j = k
  map : L 0 = true → MapI w (g 0) (C K L g) ∧ K.w0.heap.size ≤ g 0
  box : L 22 = true → Mem w (g 22) TMem #[.int .i32 0, .int .u32 0, .map (some (g 0))] ∧ K.w0.heap.size ≤ g 22
  cl : ∀ k, k < 25 → L k = true → ∀ j ∈ Pr k, L j = true
section
variable {K : Kon} {L : Nat → Bool} {a : Act} {w w' : World} {g : Nat → Nat}
theorem mark_ne {i k : Nat} (h : k ≠ i) : mark L i k = L k := if_neg h
theorem mark_self {i : Nat} : mark L i i = true := if_pos rfl
theorem mark_old {i k : Nat} (h : L k = true) : mark L i k = true := by
  unfold mark
  split
  · rfl
  · exact h
/-- Behind an operation that yields v: the act's part. -/
theorem act_part (h : Inv K L a w g) {i d : Nat} (hi : i < 25) (hd : D i = some d) (g' : Nat → Nat) (hv : ∀ k, k < 25 → k ≠ i → L k = true → val K g' k = val K g k) :
    (a.put (some d) (val K g' i)).tmps.size = 57 ∧ (a.put (some d) (val K g' i)).eval (.tmp 1) = .int .i64 K.nt ∧ (a.put (some d) (val K g' i)).eval (.tmp 3) = .pointer (some ⟨K.cb, 0, none⟩) ∧ (a.put (some d) (val K g' i)).eval (.tmp 9) = sl K.gd K.nd ∧ (a.put (some d) (val K g' i)).eval (.tmp 10) = sl K.gh K.nh ∧ (a.put (some d) (val K g' i)).eval (.tmp 11) = sl K.gn K.nn ∧
    ∀ k, k < 25 → mark L i k = true → ∀ x, D k = some x → (a.put (some d) (val K g' i)).eval (.tmp x) = val K g' k := by
  obtain ⟨h57, n1, n3, n9, n10, n11⟩ := D_ok i hi d hd
  refine ⟨by simp [Act.put, h.sz], (eval_other n1).trans h.f1, (eval_other n3).trans h.f3, (eval_other n9).trans h.f9, (eval_other n10).trans h.f10, (eval_other n11).trans h.f11, fun k hk hL x hx => ?_⟩
  by_cases e : k = i
  · subst e
    rw [hd] at hx
    injection hx with hx
    subst hx
    exact eval_same (by rw [h.sz]; exact h57)
  · rw [mark_ne e] at hL
    rw [eval_other (fun e2 => D_inj k hk i hi e x hx (by rw [hd, e2])), h.e k hk hL x hx, hv k hk e hL]
theorem cl_part (h : Inv K L a w g) {i : Nat} (hp : ∀ j ∈ Pr i, L j = true) : ∀ k, k < 25 → mark L i k = true → ∀ j ∈ Pr k, mark L i j = true := by
  intro k hk hL j hj
  by_cases e : k = i
  · subst e; exact mark_old (hp j hj)
  · rw [mark_ne e] at hL
    exact mark_old (h.cl k hk hL j hj)
theorem ins_ne {i : Nat} (hi : ∀ k : Int, 1 ≤ k ∧ k ≤ 8 → ins k ≠ i) (g : Nat → Nat) : C K (mark L i) g = C K L g := by
  funext k
  unfold C
  split
  · rename_i hk
    rw [mark_ne (hi k hk)]
  · rfl
/-- An operation that reads. -/
theorem Inv.pure (h : Inv K L a w g) {i d : Nat} (hi : i < 25) (hd : D i = some d) (hp : ∀ j ∈ Pr i, L j = true) (hn : i ≠ 0 ∧ i ≠ 22 ∧ ¬ isMake i) (hins : ∀ k : Int, 1 ≤ k ∧ k ≤ 8 → ins k ≠ i) :
    Inv K (mark L i) (a.put (some d) (val K g i)) w g := by
  obtain ⟨s, e1, e3, e9, e10, e11, ee⟩ := act_part h hi hd g (fun _ _ _ _ => rfl)
  refine ⟨s, h.df, e1, e3, e9, e10, e11, ee, h.old, fun k hk hL => ?_, fun j k hj hk hjL hkL => ?_, fun hL => ?_, fun hL => ?_, cl_part h hp⟩
  · exact h.row k hk (by rwa [mark_ne (fun (e : k = i) => hn.2.2 (e ▸ hk))] at hL)
  · exact h.ap j k hj hk (by rwa [mark_ne (fun (e : j = i) => hn.2.2 (e ▸ hj))] at hjL) (by rwa [mark_ne (fun (e : k = i) => hn.2.2 (e ▸ hk))] at hkL)
  · rw [ins_ne hins]
    exact h.map (by rwa [mark_ne (Ne.symm hn.1)] at hL)
  · exact h.box (by rwa [mark_ne (Ne.symm hn.2.1)] at hL)
theorem ins_src : ∀ k : Int, 1 ≤ k ∧ k ≤ 8 → ins k < 25 ∧ src k < 25 ∧ 0 ∈ Pr (ins k) ∧ src k ∈ Pr (ins k) ∧ src k ≠ 0 ∧ src k ≠ 22 ∧ src k ≠ 20 ∧ src k ≠ 21 ∧ src k ≠ 23 ∧ ins k ∈ Pr 20 ∧ D (ins k) = none := by
  intro k hk
  have : k = 1 ∨ k = 2 ∨ k = 3 ∨ k = 4 ∨ k = 5 ∨ k = 6 ∨ k = 7 ∨ k = 8 := by omega
  rcases this with rfl | rfl | rfl | rfl | rfl | rfl | rfl | rfl <;> decide
theorem ins_inj : ∀ j k : Int, 1 ≤ j ∧ j ≤ 8 → 1 ≤ k ∧ k ≤ 8 → ins j = ins k → j = k := by
  intro j k hj hk
  have h1 : j = 1 ∨ j = 2 ∨ j = 3 ∨ j = 4 ∨ j = 5 ∨ j = 6 ∨ j = 7 ∨ j = 8 := by omega
  have h2 : k = 1 ∨ k = 2 ∨ k = 3 ∨ k = 4 ∨ k = 5 ∨ k = 6 ∨ k = 7 ∨ k = 8 := by omega
  rcases h1 with rfl | rfl | rfl | rfl | rfl | rfl | rfl | rfl <;> rcases h2 with rfl | rfl | rfl | rfl | rfl | rfl | rfl | rfl <;> decide
theorem val_up {i x : Nat} (hi : isMake i) (k : Nat) (hk : k ≠ i) : val K (up g i x) k = val K g k := by
  unfold isMake at hi
  rcases hi with rfl | rfl | rfl | rfl | rfl <;> (unfold val; split <;> simp_all [up])
theorem C_up (h : Inv K L a w g) {i x : Nat} (hi : isMake i) (hu : L i = false) (hins : ∀ k : Int, 1 ≤ k ∧ k ≤ 8 → ins k ≠ i) : C K (mark L i) (up g i x) = C K L g := by
  rw [ins_ne hins]
  funext k
  unfold C
  split
  · rename_i hk
    split
    · rename_i hL
      obtain ⟨i1, i2, i3, i4, _⟩ := ins_src k hk
      rw [val_up hi]
      rintro e
      rw [← e, h.cl _ i1 hL _ i4] at hu
      cases hu
    · rfl
  · rfl
/-- A row is made. -/
theorem Inv.make (h : Inv K L a w g) {i d : Nat} (hi : i < 25) (hd : D i = some d) (hp : ∀ j ∈ Pr i, L j = true) (hm : isMake i) (hu : L i = false) (hins : ∀ k : Int, 1 ≤ k ∧ k ≤ 8 → ins k ≠ i) :
    Inv K (mark L i) (a.put (some d) (val K (up g i w.heap.size) i)) (w.alloc (.cells (U (List.replicate (cnt K i) 0)) TU)) (up g i w.heap.size) := by
  obtain ⟨s, e1, e3, e9, e10, e11, ee⟩ := act_part h hi hd (up g i w.heap.size) (fun k _ hk _ => val_up hm k hk)
  have n0 : i ≠ 0 := by unfold isMake at hm; omega
  have n22 : i ≠ 22 := by unfold isMake at hm; omega
  have u0 : up g i w.heap.size 0 = g 0 := if_neg (Ne.symm n0)
  have u22 : up g i w.heap.size 22 = g 22 := if_neg (Ne.symm n22)
  have ui : up g i w.heap.size i = w.heap.size := if_pos rfl
  have hsz := h.old.size
  refine ⟨s, h.df, e1, e3, e9, e10, e11, ee, h.old.alloc hsz _, fun k hk hL => ?_, fun j k hj hk hjL hkL he => ?_, fun hL => ?_, fun hL => ?_, cl_part h hp⟩
  · by_cases e : k = i
    · subst e
      rw [ui]
      exact ⟨Mem.new _ _ _, hsz⟩
    · rw [mark_ne e] at hL
      rw [show up g i w.heap.size k = g k from if_neg e]
      exact ⟨(h.row k hk hL).1.alloc _, (h.row k hk hL).2⟩
  · by_cases ej : j = i
    · by_cases ek : k = i
      · rw [ej, ek]
      · rw [mark_ne ek] at hkL
        rw [ej, ui, show up g i w.heap.size k = g k from if_neg ek] at he
        exact absurd (h.row k hk hkL).1.lt (by omega)
    · rw [mark_ne ej] at hjL
      rw [show up g i w.heap.size j = g j from if_neg ej] at he
      by_cases ek : k = i
      · rw [ek, ui] at he
        exact absurd (h.row j hj hjL).1.lt (by omega)
      · rw [mark_ne ek] at hkL
        rw [show up g i w.heap.size k = g k from if_neg ek] at he
        exact h.ap j k hj hk hjL hkL he
  · rw [mark_ne (Ne.symm n0)] at hL
    rw [u0, C_up h hm hu hins]
    exact ⟨(h.map hL).1.of_block (BlkW.heap_alloc_old _ _ _ (h.map hL).1.lt), (h.map hL).2⟩
  · rw [mark_ne (Ne.symm n22)] at hL
    rw [u0, u22]
    exact ⟨(h.box hL).1.alloc _, (h.box hL).2⟩
/-- The map is made. -/
theorem Inv.start (h : Inv K L a w g) (hu : L 0 = false) : Inv K (mark L 0) (a.put (some 42) (val K (up g 0 w.heap.size) 0)) (w.alloc (.map #[] 0)) (up g 0 w.heap.size) := by
  have hno : ∀ k, k < 25 → L k = true → 0 ∉ Pr k := by
    intro k hk hL hm
    rw [h.cl k hk hL 0 hm] at hu
    cases hu
  have hv : ∀ k, k < 25 → k ≠ 0 → L k = true → val K (up g 0 w.heap.size) k = val K g k := by
    intro k hk hk0 hL
    have := hno k hk hL
    have h20 : k ≠ 20 := by rintro rfl; exact this (by decide)
    have h21 : k ≠ 21 := by rintro rfl; exact this (by decide)
    unfold val
    split <;> simp_all [up]
  obtain ⟨s, e1, e3, e9, e10, e11, ee⟩ := act_part h (i := 0) (d := 42) (by decide) rfl (up g 0 w.heap.size) hv
  have hsz := h.old.size
  have hpos : ∀ k, isMake k → up g 0 w.heap.size k = g k := fun k hk => if_neg (by unfold isMake at hk; omega)
  refine ⟨s, h.df, e1, e3, e9, e10, e11, ee, h.old.alloc hsz _, fun k hk hL => ?_, fun j k hj hk hjL hkL he => ?_, fun hL => ?_, fun hL => ?_, cl_part h (by intro j hj; simp [Pr] at hj)⟩
  · rw [mark_ne (by unfold isMake at hk; omega)] at hL
    rw [hpos k hk]
    exact ⟨(h.row k hk hL).1.alloc _, (h.row k hk hL).2⟩
  · rw [mark_ne (by unfold isMake at hj; omega)] at hjL
    rw [mark_ne (by unfold isMake at hk; omega)] at hkL
    rw [hpos j hj, hpos k hk] at he
    exact h.ap j k hj hk hjL hkL he
  · refine ⟨(MapI.new w).congr fun k => ?_, hsz⟩
    unfold C
    split
    · rename_i hk
      obtain ⟨i1, i2, i3, i4, _⟩ := ins_src k hk
      rw [if_neg]
      intro hl
      rw [mark_ne (by rintro e; rw [e] at i3; simp [Pr] at i3)] at hl
      exact hno _ i1 hl i3
    · rfl
  · rw [mark_ne (by decide)] at hL
    exact absurd (show (0 : Nat) ∈ Pr 22 by decide) (hno 22 (by decide) hL)
/-- A row is laid into the map. -/
theorem Inv.lay (h : Inv K L a w g) {k : Int} (hk : 1 ≤ k ∧ k ≤ 8) (hu : L (ins k) = false) (hp : ∀ j ∈ Pr (ins k), L j = true) :
    ∃ w', (Instr.mapUpdate TMap (.map (some (g 0))) (.int .i64 k) (val K g (src k))).run Try.prog w = .ok () w' ∧ Inv K (mark L (ins k)) a w' g := by
  obtain ⟨i1, i2, i3, i4, i5, i6, i7, i8, i9, i10, i11⟩ := ins_src k hk
  obtain ⟨hm, hm0⟩ := h.map (hp 0 i3)
  obtain ⟨w', hrun, hm', hsz, hfar, ho, ht, hout⟩ := hm.put k (by unfold C; rw [if_pos hk, if_neg (by rw [hu]; decide)]) (val K g (src k))
  have hne : ∀ j, isMake j → L j = true → g j ≠ g 0 := by
    intro j hj hL e
    have h1 := (h.row j hj hL).1
    obtain ⟨es, clock, h2, _⟩ := hm
    simp only [Row, Mem] at h1
    rw [e, h2] at h1
    cases h1
  have hmk : ∀ j, isMake j → j ≠ ins k := by
    intro j hj e
    unfold isMake at hj
    rw [← e] at i11
    rcases hj with rfl | rfl | rfl | rfl | rfl <;> cases i11
  refine ⟨w', hrun, h.sz, h.df, h.f1, h.f3, h.f9, h.f10, h.f11, fun j hj hL d hd => ?_, ?_, fun j hj hL => ?_, fun i j hi hj hiL hjL he => ?_, fun hL => ⟨hm'.congr fun j => ?_, hm0⟩, fun hL => ?_, cl_part h hp⟩
  · by_cases e : j = ins k
    · rw [e, i11] at hd
      cases hd
    · rw [mark_ne e] at hL
      exact h.e j hj hL d hd
  · refine ⟨ho.trans h.old.os, ht.trans h.old.tape, hout.trans h.old.output, by rw [hsz]; exact h.old.size, fun x hx => ?_⟩
    exact (hfar x (by omega)).trans (h.old.block x hx)
  · rw [mark_ne (hmk j hj)] at hL
    exact ⟨(hfar _ (hne j hj hL)).trans (h.row j hj hL).1, (h.row j hj hL).2⟩
  · rw [mark_ne (hmk i hi)] at hiL
    rw [mark_ne (hmk j hj)] at hjL
    exact h.ap i j hi hj hiL hjL he
  · show (if j = k then some (val K g (src k)) else C K L g j) = C K (mark L (ins k)) g j
    by_cases e : j = k
    · subst e
      rw [if_pos rfl]
      unfold C
      rw [if_pos hk, if_pos mark_self]
    · rw [if_neg e]
      unfold C
      split
      · rename_i hj
        rw [mark_ne fun e2 => e (ins_inj j k hj hk e2)]
      · rfl
  · rw [mark_ne (by rintro e; rw [← e] at i11; cases i11)] at hL
    have := h.cl 22 (by decide) hL (ins k) (by
      have : ∀ x, x ∈ Pr 20 → x ∈ Pr 22 := by decide
      exact this _ i10)
    rw [hu] at this
    cases this
/-- The struct is made. -/
theorem Inv.boxed (h : Inv K L a w g) (hu : L 22 = false) (hp : ∀ j ∈ Pr 22, L j = true) :
    Inv K (mark L 22) (a.put (some 56) (val K (up g 22 w.heap.size) 22)) (w.alloc (.cells #[.int .i32 0, .int .u32 0, .map (some (g 0))] TMem)) (up g 22 w.heap.size) := by
  have hv : ∀ k, k < 25 → k ≠ 22 → L k = true → val K (up g 22 w.heap.size) k = val K g k := by
    intro k hk hk0 hL
    have h23 : k ≠ 23 := by
      rintro rfl
      rw [h.cl 23 (by decide) hL 22 (by decide)] at hu
      cases hu
    unfold val
    split <;> simp_all [up]
  obtain ⟨s, e1, e3, e9, e10, e11, ee⟩ := act_part h (i := 22) (d := 56) (by decide) rfl (up g 22 w.heap.size) hv
  have hsz := h.old.size
  have hpos : ∀ k, isMake k → up g 22 w.heap.size k = g k := fun k hk => if_neg (by unfold isMake at hk; omega)
  have hC : C K (mark L 22) (up g 22 w.heap.size) = C K L g := by
    rw [ins_ne (fun k hk e => by
      obtain ⟨_, _, _, _, _, _, _, _, _, _, i11⟩ := ins_src k hk
      rw [e] at i11; cases i11)]
    funext k
    unfold C
    split
    · rename_i hk
      obtain ⟨i1, i2, i3, i4, i5, i6, _⟩ := ins_src k hk
      split
      · rename_i hL
        rw [hv _ i2 i6 (h.cl _ i1 hL _ i4)]
      · rfl
    · rfl
  refine ⟨s, h.df, e1, e3, e9, e10, e11, ee, h.old.alloc hsz _, fun k hk hL => ?_, fun j k hj hk hjL hkL he => ?_, fun hL => ?_, fun hL => ⟨Mem.new _ _ _, hsz⟩, cl_part h hp⟩
  · rw [mark_ne (by unfold isMake at hk; omega)] at hL
    rw [hpos k hk]
    exact ⟨(h.row k hk hL).1.alloc _, (h.row k hk hL).2⟩
  · rw [mark_ne (by unfold isMake at hj; omega)] at hjL
    rw [mark_ne (by unfold isMake at hk; omega)] at hkL
    rw [hpos j hj, hpos k hk] at he
    exact h.ap j k hj hk hjL hkL he
  · rw [mark_ne (by decide)] at hL
    rw [hC]
    exact ⟨(h.map hL).1.of_block (BlkW.heap_alloc_old _ _ _ (h.map hL).1.lt), (h.map hL).2⟩
end

/-! ### The operations one by one. -/
def Pd : Nat → List Nat := fun k => if k = 21 then [20] else if k = 22 then [21] else Pr k
theorem preds_ok : ((List.range 25).all fun i => (Pd i).all fun j => match ops[i]? with | some o => o.after.toList.any fun e => Region.binds .any e && e.on == j | none => false) = true := by kernel_rfl
theorem preds_lt : ((List.range 25).all fun i => match ops[i]? with | some o => o.after.toList.all fun e => decide (e.on < i) | none => false) = true := by kernel_rfl
theorem pr_of {L : Nat → Bool} {i : Nat} (hi : i < 25) (h : ∀ o, ops[i]? = some o → ∀ e ∈ o.after, Region.binds .any e = true → L e.on = true) : ∀ j ∈ Pd i, L j = true := by
  intro j hj
  have h1 := List.all_eq_true.1 (List.all_eq_true.1 preds_ok i (List.mem_range.2 hi)) j hj
  cases ho : ops[i]? with
  | none => rw [ho] at h1; cases h1
  | some o =>
    rw [ho] at h1
    obtain ⟨e, he, hb⟩ := List.any_eq_true.1 h1
    simp only [Bool.and_eq_true, beq_iff_eq] at hb
    rw [← hb.2]
    exact h o ho e (by simpa using he) hb.1
theorem pr_full {K : Kon} {L : Nat → Bool} {a : Act} {w : World} {g : Nat → Nat} (h : Inv K L a w g) {i : Nat} (hp : ∀ j ∈ Pd i, L j = true) : ∀ j ∈ Pr i, L j = true := by
  by_cases h1 : i = 21
  · subst h1
    have h20 : L 20 = true := hp 20 (by decide)
    intro j hj
    have hj2 : j < 21 := List.mem_range.1 hj
    by_cases e : j = 20
    · rw [e]; exact h20
    · exact h.cl 20 (by decide) h20 j (List.mem_range.2 (by omega))
  · by_cases h2 : i = 22
    · subst h2
      have h21 : L 21 = true := hp 21 (by decide)
      intro j hj
      have hj2 : j < 22 := List.mem_range.1 hj
      by_cases e : j = 21
      · rw [e]; exact h21
      · exact h.cl 21 (by decide) h21 j (List.mem_range.2 (by omega))
    · intro j hj
      exact hp j (by unfold Pd; rw [if_neg h1, if_neg h2]; exact hj)
theorem evc {a : Act} {v : Value} : a.eval (.const v) = v := rfl
theorem run_load {a : Addr} {n : Int} {w : World} (h : w.cell? a = some (.int .i64 n)) : (Instr.loadAt TI (.pointer (some a))).run Try.prog w = .ok (.int .i64 n) w := by simp [go_sem, h]
theorem live (L : Nat → Bool) (h : ∃ i, i < ops.size ∧ L i = false) : ∃ i, i < ops.size ∧ L i = false ∧ ∀ o, ops[i]? = some o → ∀ e ∈ o.after, Region.binds .any e = true → L e.on = true := by
  obtain ⟨i, hi, hL⟩ := h
  induction i using Nat.strongRecOn with
  | _ i ih =>
    by_cases hall : ∀ j, j < i → L j = true
    · refine ⟨i, hi, hL, fun o ho e he hb => ?_⟩
      have h1 := List.all_eq_true.1 preds_lt i (List.mem_range.2 (by rw [ops_size] at hi; exact hi))
      rw [ho] at h1
      have := List.all_eq_true.1 h1 e (by simpa using he)
      exact hall _ (by simpa using this)
    · have : ∃ j, j < i ∧ L j = false := by
        by_cases hx : ∃ j, j < i ∧ L j = false
        · exact hx
        · exact absurd (fun j hj => by
            cases hb : L j with
            | true => rfl
            | false => exact absurd ⟨j, hj, hb⟩ hx) hall
      obtain ⟨j, hj, hjL⟩ := this
      exact ih j hj (Nat.lt_trans hj hi) hjL
theorem run_build (m : Nat) (w : World) : (Instr.build TMem #[(1, .map (some m))]).run Try.prog w = .ok (.agg #[.int .i32 0, .int .u32 0, .map (some m)]) w := by kernel_rfl
theorem run_field (b : Nat) (w : World) : (Instr.fieldAt 43 (.pointer (some ⟨b, 0, none⟩)) 1).run Try.prog w = .ok (.pointer (some ⟨b, 1, none⟩)) w := by kernel_rfl
theorem o0 : ∃ t p f, ops[0]? = some ⟨some 42, .makeMap TMap none, t, p, f, none⟩ := ⟨_, _, _, rfl⟩
theorem o1 : ∃ t p f, ops[1]? = some ⟨some 43, .move (.tmp 9), t, p, f, none⟩ := ⟨_, _, _, rfl⟩
theorem o2 : ∃ t p f, ops[2]? = some ⟨none, .insert TMap (.tmp 42) (.const (.int .i64 1)) (.tmp 43), t, p, f, none⟩ := ⟨_, _, _, rfl⟩
theorem o3 : ∃ t p f, ops[3]? = some ⟨some 44, .fieldAddr 43 (.tmp 3) 1, t, p, f, none⟩ := ⟨_, _, _, rfl⟩
theorem o4 : ∃ t p f, ops[4]? = some ⟨some 45, .load TI (.tmp 44), t, p, f, none⟩ := ⟨_, _, _, rfl⟩
theorem o5 : ∃ t p f, ops[5]? = some ⟨some 46, .makeSlice TR (.tmp 45) (.tmp 45), t, p, f, none⟩ := ⟨_, _, _, rfl⟩
theorem o6 : ∃ t p f, ops[6]? = some ⟨none, .insert TMap (.tmp 42) (.const (.int .i64 2)) (.tmp 46), t, p, f, none⟩ := ⟨_, _, _, rfl⟩
theorem o7 : ∃ t p f, ops[7]? = some ⟨some 47, .makeSlice TR (.const (.int .i64 1)) (.const (.int .i64 1)), t, p, f, none⟩ := ⟨_, _, _, rfl⟩
theorem o8 : ∃ t p f, ops[8]? = some ⟨none, .insert TMap (.tmp 42) (.const (.int .i64 3)) (.tmp 47), t, p, f, none⟩ := ⟨_, _, _, rfl⟩
theorem o9 : ∃ t p f, ops[9]? = some ⟨some 48, .makeSlice TR (.const (.int .i64 1)) (.const (.int .i64 1)), t, p, f, none⟩ := ⟨_, _, _, rfl⟩
theorem o10 : ∃ t p f, ops[10]? = some ⟨none, .insert TMap (.tmp 42) (.const (.int .i64 4)) (.tmp 48), t, p, f, none⟩ := ⟨_, _, _, rfl⟩
theorem o11 : ∃ t p f, ops[11]? = some ⟨some 49, .makeSlice TR (.const (.int .i64 1)) (.const (.int .i64 1)), t, p, f, none⟩ := ⟨_, _, _, rfl⟩
theorem o12 : ∃ t p f, ops[12]? = some ⟨none, .insert TMap (.tmp 42) (.const (.int .i64 5)) (.tmp 49), t, p, f, none⟩ := ⟨_, _, _, rfl⟩
theorem o13 : ∃ t p f, ops[13]? = some ⟨some 50, .move (.tmp 1), t, p, f, none⟩ := ⟨_, _, _, rfl⟩
theorem o14 : ∃ t p f, ops[14]? = some ⟨some 51, .makeSlice TR (.tmp 50) (.tmp 50), t, p, f, none⟩ := ⟨_, _, _, rfl⟩
theorem o15 : ∃ t p f, ops[15]? = some ⟨none, .insert TMap (.tmp 42) (.const (.int .i64 6)) (.tmp 51), t, p, f, none⟩ := ⟨_, _, _, rfl⟩
theorem o16 : ∃ t p f, ops[16]? = some ⟨some 52, .move (.tmp 10), t, p, f, none⟩ := ⟨_, _, _, rfl⟩
theorem o17 : ∃ t p f, ops[17]? = some ⟨none, .insert TMap (.tmp 42) (.const (.int .i64 7)) (.tmp 52), t, p, f, none⟩ := ⟨_, _, _, rfl⟩
theorem o18 : ∃ t p f, ops[18]? = some ⟨some 53, .move (.tmp 11), t, p, f, none⟩ := ⟨_, _, _, rfl⟩
theorem o19 : ∃ t p f, ops[19]? = some ⟨none, .insert TMap (.tmp 42) (.const (.int .i64 8)) (.tmp 53), t, p, f, none⟩ := ⟨_, _, _, rfl⟩
theorem o20 : ∃ t p f, ops[20]? = some ⟨some 54, .move (.tmp 42), t, p, f, none⟩ := ⟨_, _, _, rfl⟩
theorem o21 : ∃ t p f, ops[21]? = some ⟨some 55, .build TMem #[(1, .tmp 54)], t, p, f, none⟩ := ⟨_, _, _, rfl⟩
theorem o22 : ∃ t p f, ops[22]? = some ⟨some 56, .box TMem (.tmp 55), t, p, f, none⟩ := ⟨_, _, _, rfl⟩
theorem o23 : ∃ t p f, ops[23]? = some ⟨some 6, .assign (.tmp 56), t, p, f, none⟩ := ⟨_, _, _, rfl⟩
theorem o24 : ∃ t p f, ops[24]? = some ⟨some 7, .assign (.const (.int .i64 0)), t, p, f, none⟩ := ⟨_, _, _, rfl⟩
set_option maxHeartbeats 4000000 in
theorem step_ok {Q : Exit → Act → World → Prop} {K0 : Kon} {cs : Array Value} (hno : K0.no ≤ 1000) (hnt : K0.nt ≤ 1000) (hcb : K0.cb < K0.w0.heap.size) (hcell : K0.w0.cell? ⟨K0.cb, 1, none⟩ = some (.int .i64 K0.no)) :
    ∀ L a w i, (∃ g, Inv K0 L a w g) → i < ops.size → L i = false → (∀ o, ops[i]? = some o → ∀ e ∈ o.after, Region.binds .any e = true → L e.on = true) → ∀ K : Act → World → Prop, (∀ a' w', (∃ g, Inv K0 (mark L i) a' w' g) → K a' w') → wpOp Try.prog ops Q i K a w := by
  intro L a w i ⟨g, h⟩ hi hu hpre K hK
  rw [ops_size] at hi
  have hp := pr_full h (pr_of hi hpre)
  clear hpre
  match i, hi, hu, hp, hK with
  | 0, hi, hu, hp, hK =>
    obtain ⟨t, p, f, ho⟩ := o0
    exact op_value (v := val K0 (up g 0 w.heap.size) 0) ho rfl (by simp [execOp, run_makeMap]; rfl) (hK _ _ ⟨_, h.start hu⟩)
  | 1, hi, hu, hp, hK =>
    obtain ⟨t, p, f, ho⟩ := o1
    have hv : a.eval (.tmp 9) = val K0 g 1 := h.f9
    exact op_value ho rfl (by simp only [execOp, hv]; rfl) (hK _ _ ⟨g, h.pure hi rfl hp ⟨by decide, by decide, by unfold isMake; omega⟩ (fun k hk => by have := ins_src k hk; intro e; rw [e] at this; exact absurd this.2.2.2.2.2.2.2.2.2.2 (by decide))⟩)
  | 2, hi, hu, hp, hK =>
    obtain ⟨t, p, f, ho⟩ := o2
    have hm : a.eval (.tmp 42) = .map (some (g 0)) := h.e 0 (by decide) (hp 0 (by decide)) 42 rfl
    have hv : a.eval (.tmp 43) = val K0 g (src 1) := h.e 1 (by decide) (hp 1 (by decide)) 43 rfl
    obtain ⟨w', hr, h'⟩ := h.lay (k := 1) (by omega) hu hp
    exact op_skip ho rfl (by simp [execOp, hm, hv, evc, hr]) (hK _ _ ⟨_, h'⟩)
  | 3, hi, hu, hp, hK =>
    obtain ⟨t, p, f, ho⟩ := o3
    exact op_value (v := val K0 g 3) ho rfl (by simp [execOp, h.f3, run_field]; rfl) (hK _ _ ⟨g, h.pure hi rfl hp ⟨by decide, by decide, by unfold isMake; omega⟩ (fun k hk => by have := ins_src k hk; intro e; rw [e] at this; exact absurd this.2.2.2.2.2.2.2.2.2.2 (by decide))⟩)
  | 4, hi, hu, hp, hK =>
    obtain ⟨t, p, f, ho⟩ := o4
    have hv : a.eval (.tmp 44) = .pointer (some ⟨K0.cb, 1, none⟩) := h.e 3 (by decide) (hp 3 (by decide)) 44 rfl
    have hc : w.cell? ⟨K0.cb, 1, none⟩ = some (.int .i64 K0.no) := (World.cell?_of_block (h.old.block K0.cb hcb)).trans hcell
    exact op_value (v := val K0 g 4) ho rfl (by simp [execOp, hv, run_load hc]; rfl) (hK _ _ ⟨g, h.pure hi rfl hp ⟨by decide, by decide, by unfold isMake; omega⟩ (fun k hk => by have := ins_src k hk; intro e; rw [e] at this; exact absurd this.2.2.2.2.2.2.2.2.2.2 (by decide))⟩)
  | 5, hi, hu, hp, hK =>
    obtain ⟨t, p, f, ho⟩ := o5
    have hv : a.eval (.tmp 45) = .int .i64 K0.no := h.e 4 (by decide) (hp 4 (by decide)) 45 rfl
    have hr := make_row w K0.no (by omega)
    exact op_value (v := val K0 (up g 5 w.heap.size) 5) ho rfl (by simp [execOp, hv, hr]; exact ⟨rfl, rfl⟩) (hK _ _ ⟨_, h.make hi rfl hp (by unfold isMake; omega) hu (fun k hk => by have := ins_src k hk; intro e; rw [e] at this; exact absurd this.2.2.2.2.2.2.2.2.2.2 (by decide))⟩)
  | 6, hi, hu, hp, hK =>
    obtain ⟨t, p, f, ho⟩ := o6
    have hm : a.eval (.tmp 42) = .map (some (g 0)) := h.e 0 (by decide) (hp 0 (by decide)) 42 rfl
    have hv : a.eval (.tmp 46) = val K0 g (src 2) := h.e 5 (by decide) (hp 5 (by decide)) 46 rfl
    obtain ⟨w', hr, h'⟩ := h.lay (k := 2) (by omega) hu hp
    exact op_skip ho rfl (by simp [execOp, hm, hv, evc, hr]) (hK _ _ ⟨_, h'⟩)
  | 7, hi, hu, hp, hK =>
    obtain ⟨t, p, f, ho⟩ := o7
    have hr := make_row w 1 (by omega)
    simp only [Int.cast_ofNat_Int] at hr
    exact op_value (v := val K0 (up g 7 w.heap.size) 7) ho rfl (by simp [execOp, evc, hr]; exact ⟨rfl, rfl⟩) (hK _ _ ⟨_, h.make hi rfl hp (by unfold isMake; omega) hu (fun k hk => by have := ins_src k hk; intro e; rw [e] at this; exact absurd this.2.2.2.2.2.2.2.2.2.2 (by decide))⟩)
  | 8, hi, hu, hp, hK =>
    obtain ⟨t, p, f, ho⟩ := o8
    have hm : a.eval (.tmp 42) = .map (some (g 0)) := h.e 0 (by decide) (hp 0 (by decide)) 42 rfl
    have hv : a.eval (.tmp 47) = val K0 g (src 3) := h.e 7 (by decide) (hp 7 (by decide)) 47 rfl
    obtain ⟨w', hr, h'⟩ := h.lay (k := 3) (by omega) hu hp
    exact op_skip ho rfl (by simp [execOp, hm, hv, evc, hr]) (hK _ _ ⟨_, h'⟩)
  | 9, hi, hu, hp, hK =>
    obtain ⟨t, p, f, ho⟩ := o9
    have hr := make_row w 1 (by omega)
    simp only [Int.cast_ofNat_Int] at hr
    exact op_value (v := val K0 (up g 9 w.heap.size) 9) ho rfl (by simp [execOp, evc, hr]; exact ⟨rfl, rfl⟩) (hK _ _ ⟨_, h.make hi rfl hp (by unfold isMake; omega) hu (fun k hk => by have := ins_src k hk; intro e; rw [e] at this; exact absurd this.2.2.2.2.2.2.2.2.2.2 (by decide))⟩)
  | 10, hi, hu, hp, hK =>
    obtain ⟨t, p, f, ho⟩ := o10
    have hm : a.eval (.tmp 42) = .map (some (g 0)) := h.e 0 (by decide) (hp 0 (by decide)) 42 rfl
    have hv : a.eval (.tmp 48) = val K0 g (src 4) := h.e 9 (by decide) (hp 9 (by decide)) 48 rfl
    obtain ⟨w', hr, h'⟩ := h.lay (k := 4) (by omega) hu hp
    exact op_skip ho rfl (by simp [execOp, hm, hv, evc, hr]) (hK _ _ ⟨_, h'⟩)
  | 11, hi, hu, hp, hK =>
    obtain ⟨t, p, f, ho⟩ := o11
    have hr := make_row w 1 (by omega)
    simp only [Int.cast_ofNat_Int] at hr
    exact op_value (v := val K0 (up g 11 w.heap.size) 11) ho rfl (by simp [execOp, evc, hr]; exact ⟨rfl, rfl⟩) (hK _ _ ⟨_, h.make hi rfl hp (by unfold isMake; omega) hu (fun k hk => by have := ins_src k hk; intro e; rw [e] at this; exact absurd this.2.2.2.2.2.2.2.2.2.2 (by decide))⟩)
  | 12, hi, hu, hp, hK =>
    obtain ⟨t, p, f, ho⟩ := o12
    have hm : a.eval (.tmp 42) = .map (some (g 0)) := h.e 0 (by decide) (hp 0 (by decide)) 42 rfl
    have hv : a.eval (.tmp 49) = val K0 g (src 5) := h.e 11 (by decide) (hp 11 (by decide)) 49 rfl
    obtain ⟨w', hr, h'⟩ := h.lay (k := 5) (by omega) hu hp
    exact op_skip ho rfl (by simp [execOp, hm, hv, evc, hr]) (hK _ _ ⟨_, h'⟩)
  | 13, hi, hu, hp, hK =>
    obtain ⟨t, p, f, ho⟩ := o13
    have hv : a.eval (.tmp 1) = val K0 g 13 := h.f1
    exact op_value ho rfl (by simp only [execOp, hv]; rfl) (hK _ _ ⟨g, h.pure hi rfl hp ⟨by decide, by decide, by unfold isMake; omega⟩ (fun k hk => by have := ins_src k hk; intro e; rw [e] at this; exact absurd this.2.2.2.2.2.2.2.2.2.2 (by decide))⟩)
  | 14, hi, hu, hp, hK =>
    obtain ⟨t, p, f, ho⟩ := o14
    have hv : a.eval (.tmp 50) = .int .i64 K0.nt := h.e 13 (by decide) (hp 13 (by decide)) 50 rfl
    have hr := make_row w K0.nt (by omega)
    exact op_value (v := val K0 (up g 14 w.heap.size) 14) ho rfl (by simp [execOp, hv, hr]; exact ⟨rfl, rfl⟩) (hK _ _ ⟨_, h.make hi rfl hp (by unfold isMake; omega) hu (fun k hk => by have := ins_src k hk; intro e; rw [e] at this; exact absurd this.2.2.2.2.2.2.2.2.2.2 (by decide))⟩)
  | 15, hi, hu, hp, hK =>
    obtain ⟨t, p, f, ho⟩ := o15
    have hm : a.eval (.tmp 42) = .map (some (g 0)) := h.e 0 (by decide) (hp 0 (by decide)) 42 rfl
    have hv : a.eval (.tmp 51) = val K0 g (src 6) := h.e 14 (by decide) (hp 14 (by decide)) 51 rfl
    obtain ⟨w', hr, h'⟩ := h.lay (k := 6) (by omega) hu hp
    exact op_skip ho rfl (by simp [execOp, hm, hv, evc, hr]) (hK _ _ ⟨_, h'⟩)
  | 16, hi, hu, hp, hK =>
    obtain ⟨t, p, f, ho⟩ := o16
    have hv : a.eval (.tmp 10) = val K0 g 16 := h.f10
    exact op_value ho rfl (by simp only [execOp, hv]; rfl) (hK _ _ ⟨g, h.pure hi rfl hp ⟨by decide, by decide, by unfold isMake; omega⟩ (fun k hk => by have := ins_src k hk; intro e; rw [e] at this; exact absurd this.2.2.2.2.2.2.2.2.2.2 (by decide))⟩)
  | 17, hi, hu, hp, hK =>
    obtain ⟨t, p, f, ho⟩ := o17
    have hm : a.eval (.tmp 42) = .map (some (g 0)) := h.e 0 (by decide) (hp 0 (by decide)) 42 rfl
    have hv : a.eval (.tmp 52) = val K0 g (src 7) := h.e 16 (by decide) (hp 16 (by decide)) 52 rfl
    obtain ⟨w', hr, h'⟩ := h.lay (k := 7) (by omega) hu hp
    exact op_skip ho rfl (by simp [execOp, hm, hv, evc, hr]) (hK _ _ ⟨_, h'⟩)
  | 18, hi, hu, hp, hK =>
    obtain ⟨t, p, f, ho⟩ := o18
    have hv : a.eval (.tmp 11) = val K0 g 18 := h.f11
    exact op_value ho rfl (by simp only [execOp, hv]; rfl) (hK _ _ ⟨g, h.pure hi rfl hp ⟨by decide, by decide, by unfold isMake; omega⟩ (fun k hk => by have := ins_src k hk; intro e; rw [e] at this; exact absurd this.2.2.2.2.2.2.2.2.2.2 (by decide))⟩)
  | 19, hi, hu, hp, hK =>
    obtain ⟨t, p, f, ho⟩ := o19
    have hm : a.eval (.tmp 42) = .map (some (g 0)) := h.e 0 (by decide) (hp 0 (by decide)) 42 rfl
    have hv : a.eval (.tmp 53) = val K0 g (src 8) := h.e 18 (by decide) (hp 18 (by decide)) 53 rfl
    obtain ⟨w', hr, h'⟩ := h.lay (k := 8) (by omega) hu hp
    exact op_skip ho rfl (by simp [execOp, hm, hv, evc, hr]) (hK _ _ ⟨_, h'⟩)
  | 20, hi, hu, hp, hK =>
    obtain ⟨t, p, f, ho⟩ := o20
    have hv : a.eval (.tmp 42) = val K0 g 20 := h.e 0 (by decide) (hp 0 (by decide)) 42 rfl
    exact op_value ho rfl (by simp only [execOp, hv]; rfl) (hK _ _ ⟨g, h.pure hi rfl hp ⟨by decide, by decide, by unfold isMake; omega⟩ (fun k hk => by have := ins_src k hk; intro e; rw [e] at this; exact absurd this.2.2.2.2.2.2.2.2.2.2 (by decide))⟩)
  | 21, hi, hu, hp, hK =>
    obtain ⟨t, p, f, ho⟩ := o21
    have hv : a.eval (.tmp 54) = .map (some (g 0)) := h.e 20 (by decide) (hp 20 (by decide)) 54 rfl
    exact op_value (v := val K0 g 21) ho rfl (by simp [execOp, hv, run_build]; rfl) (hK _ _ ⟨g, h.pure hi rfl hp ⟨by decide, by decide, by unfold isMake; omega⟩ (fun k hk => by have := ins_src k hk; intro e; rw [e] at this; exact absurd this.2.2.2.2.2.2.2.2.2.2 (by decide))⟩)
  | 22, hi, hu, hp, hK =>
    obtain ⟨t, p, f, ho⟩ := o22
    have hv : a.eval (.tmp 55) = .agg #[.int .i32 0, .int .u32 0, .map (some (g 0))] := h.e 21 (by decide) (hp 21 (by decide)) 55 rfl
    exact op_value (v := val K0 (up g 22 w.heap.size) 22) ho rfl (by simp [execOp, hv, Instr.box, newVar, newRow]; exact ⟨rfl, rfl⟩) (hK _ _ ⟨_, h.boxed hu hp⟩)
  | 23, hi, hu, hp, hK =>
    obtain ⟨t, p, f, ho⟩ := o23
    have hv : a.eval (.tmp 56) = val K0 g 23 := h.e 22 (by decide) (hp 22 (by decide)) 56 rfl
    exact op_value ho rfl (by simp only [execOp, hv]; rfl) (hK _ _ ⟨g, h.pure hi rfl hp ⟨by decide, by decide, by unfold isMake; omega⟩ (fun k hk => by have := ins_src k hk; intro e; rw [e] at this; exact absurd this.2.2.2.2.2.2.2.2.2.2 (by decide))⟩)
  | 24, hi, hu, hp, hK =>
    obtain ⟨t, p, f, ho⟩ := o24
    exact op_value (v := val K0 g 24) ho rfl (by simp only [execOp]; rfl) (hK _ _ ⟨g, h.pure hi rfl hp ⟨by decide, by decide, by unfold isMake; omega⟩ (fun k hk => by have := ins_src k hk; intro e; rw [e] at this; exact absurd this.2.2.2.2.2.2.2.2.2.2 (by decide))⟩)
  | i + 25, hi, _, _, _ => exact absurd hi (by omega)
theorem region_any {Q : Exit → Act → World → Prop} {K0 : Kon} (hno : K0.no ≤ 1000) (hnt : K0.nt ≤ 1000) (hcb : K0.cb < K0.w0.heap.size) (hcell : K0.w0.cell? ⟨K0.cb, 1, none⟩ = some (.int .i64 K0.no)) {a : Act} {w : World} {g : Nat → Nat}
    (h : Inv K0 (fun _ => false) a w g) (fin : ∀ a w g L, Inv K0 L a w g → (∀ i, i < 25 → L i = true) → Q .normal a w) : wpAny Try.prog .any ops Q ops.size (Array.replicate ops.size false) a w :=
  any_inv (fun L a w => ∃ g, Inv K0 L a w g) (step_ok (cs := #[]) hno hnt hcb hcell) (fun L a w ⟨g, h⟩ hl => fin a w g L h (fun i hi => hl i (by rw [ops_size]; exact hi))) live ops.size (Array.replicate ops.size false) a w (by simp) (by
    have := List.length_filter_le (fun i => !(Array.replicate ops.size false).getD i true) (List.range ops.size)
    simpa using this) ⟨g, by
    have : (fun k => (Array.replicate ops.size false).getD k false) = fun _ => false := by
      funext k
      simp [Array.getElem?_replicate]
      split <;> rfl
    rw [this]
    exact h⟩
/-- What holds ahead of it. -/
theorem inv_start {K0 : Kon} {a : Act} {w : World} (sz : a.tmps.size = 57) (df : a.defers = []) (f1 : a.eval (.tmp 1) = .int .i64 K0.nt) (f3 : a.eval (.tmp 3) = .pointer (some ⟨K0.cb, 0, none⟩)) (f9 : a.eval (.tmp 9) = sl K0.gd K0.nd) (f10 : a.eval (.tmp 10) = sl K0.gh K0.nh) (f11 : a.eval (.tmp 11) = sl K0.gn K0.nn) (old : Below K0.w0.heap.size K0.w0 w) :
    Inv K0 (fun _ => false) a w (fun _ => 0) :=
  ⟨sz, df, f1, f3, f9, f10, f11, (by intro _ _ h; cases h), old, (by intro _ _ h; cases h), (by intro _ _ _ _ h; cases h), (by intro h; cases h), (by intro h; cases h), (by intro _ _ h; cases h)⟩
end Go.Proofs.Ytpjbmbipkmpkhaa.CelR
