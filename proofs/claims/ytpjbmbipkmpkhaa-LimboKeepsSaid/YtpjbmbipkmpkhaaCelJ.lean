/-
  The region of Image that reads, copies and fills in whatever order Go picks.
-/
import Derived.Test.YtpjbmbipkmpkhaaCelR
import Derived.Test.YtpjbmbipkmpkhaaCelI
namespace Go.Proofs.Ytpjbmbipkmpkhaa.CelJ
open Go.ChangeShapes Go.WideShapes Go.ChangeAt Go.RowKit Go.MuLone
open PlainT BlkW CelS CelM CelP CelV CelN CelO CelI
open CelR (any_inv op_value op_skip eval_same eval_other regionOf mark_ne mark_self mark_old)
set_option linter.unusedVariables false
set_option maxRecDepth 100000
set_option maxHeartbeats 4000000

noncomputable def ops : Array Oper := (Try.f17.body.bind (regionOf 68)).getD #[]
theorem ops_size : ops.size = 68 := by kernel_rfl
def D (k : Nat) : Option Nat := if k ≤ 50 then some (13 + k) else if 52 ≤ k ∧ k ≤ 66 ∧ k % 2 = 0 then some (64 + (k - 52) / 2) else none
theorem D_inj : ∀ j, ∀ k, j ≠ k → ∀ d, D j = some d → D k = some d → False := by
  intro j k hne d h1 h2
  unfold D at h1 h2
  split at h1
  · injection h1 with h1
    split at h2
    · injection h2 with h2; omega
    · split at h2
      · injection h2 with h2; omega
      · cases h2
  · split at h1
    · injection h1 with h1
      split at h2
      · injection h2 with h2; omega
      · split at h2
        · injection h2 with h2; omega
        · cases h2
    · cases h1
theorem D_ok : ∀ j, ∀ d, D j = some d → d < 72 ∧ d ≠ 0 ∧ d ≠ 2 := by
  intro j d h
  unfold D at h
  split at h
  · injection h with h; omega
  · split at h
    · injection h with h; omega
    · cases h
/-- What the region finds. -/
structure Kon where
  lo : Nat
  hi : Nat
  w0 : World
  b : Nat
  A : Int → List Int
  bm : Nat
  g : Int → Nat
  c : Int
  t : Int
  s : Int
  dd : List Deferred
def val (K : Kon) (G : Nat → Value) (k : Nat) : Value :=
  match k with
  | 0 => .pointer (some ⟨K.b, 0, none⟩)
  | 1 => .pointer (some ⟨K.b, 0, none⟩)
  | 2 => .pointer (some ⟨K.b, 2, none⟩)
  | 3 => .map (some K.bm)
  | 4 => .slice (some ⟨K.g 1, 0, none⟩) (K.A 1).length (K.A 1).length
  | 5 => G 5
  | 6 => .pointer (some ⟨K.b, 0, none⟩)
  | 7 => .pointer (some ⟨K.b, 0, none⟩)
  | 8 => .pointer (some ⟨K.b, 2, none⟩)
  | 9 => .map (some K.bm)
  | 10 => .slice (some ⟨K.g 2, 0, none⟩) (K.A 2).length (K.A 2).length
  | 11 => G 11
  | 12 => .pointer (some ⟨K.b, 0, none⟩)
  | 13 => .pointer (some ⟨K.b, 0, none⟩)
  | 14 => .pointer (some ⟨K.b, 2, none⟩)
  | 15 => .map (some K.bm)
  | 16 => .slice (some ⟨K.g 3, 0, none⟩) 1 1
  | 17 => .pointer (some ⟨K.g 3, 0, none⟩)
  | 18 => .int .u64 K.c
  | 19 => .pointer (some ⟨K.b, 0, none⟩)
  | 20 => .pointer (some ⟨K.b, 0, none⟩)
  | 21 => .pointer (some ⟨K.b, 2, none⟩)
  | 22 => .map (some K.bm)
  | 23 => .slice (some ⟨K.g 4, 0, none⟩) 1 1
  | 24 => .pointer (some ⟨K.g 4, 0, none⟩)
  | 25 => .int .u64 K.t
  | 26 => .pointer (some ⟨K.b, 0, none⟩)
  | 27 => .pointer (some ⟨K.b, 0, none⟩)
  | 28 => .pointer (some ⟨K.b, 2, none⟩)
  | 29 => .map (some K.bm)
  | 30 => .slice (some ⟨K.g 5, 0, none⟩) 1 1
  | 31 => .pointer (some ⟨K.g 5, 0, none⟩)
  | 32 => .int .u64 K.s
  | 33 => .pointer (some ⟨K.b, 0, none⟩)
  | 34 => .pointer (some ⟨K.b, 0, none⟩)
  | 35 => .pointer (some ⟨K.b, 2, none⟩)
  | 36 => .map (some K.bm)
  | 37 => .slice (some ⟨K.g 6, 0, none⟩) (K.A 6).length (K.A 6).length
  | 38 => G 38
  | 39 => .pointer (some ⟨K.b, 0, none⟩)
  | 40 => .pointer (some ⟨K.b, 0, none⟩)
  | 41 => .pointer (some ⟨K.b, 2, none⟩)
  | 42 => .map (some K.bm)
  | 43 => .slice (some ⟨K.g 7, 0, none⟩) (K.A 7).length (K.A 7).length
  | 44 => G 44
  | 45 => .pointer (some ⟨K.b, 0, none⟩)
  | 46 => .pointer (some ⟨K.b, 0, none⟩)
  | 47 => .pointer (some ⟨K.b, 2, none⟩)
  | 48 => .map (some K.bm)
  | 49 => .slice (some ⟨K.g 8, 0, none⟩) (K.A 8).length (K.A 8).length
  | 50 => G 50
  | 52 => .pointer (some ⟨K.w0.heap.size, 0, none⟩)
  | 54 => .pointer (some ⟨K.w0.heap.size, 1, none⟩)
  | 56 => .pointer (some ⟨K.w0.heap.size, 2, none⟩)
  | 58 => .pointer (some ⟨K.w0.heap.size, 3, none⟩)
  | 60 => .pointer (some ⟨K.w0.heap.size, 4, none⟩)
  | 62 => .pointer (some ⟨K.w0.heap.size, 5, none⟩)
  | 64 => .pointer (some ⟨K.w0.heap.size, 6, none⟩)
  | 66 => .pointer (some ⟨K.w0.heap.size, 7, none⟩)
  | _ => undef
def isC (k : Nat) : Prop := k = 5 ∨ k = 11 ∨ k = 38 ∨ k = 44 ∨ k = 50
def kd (k : Nat) : Int := if k = 5 then 1 else if k = 11 then 2 else if k = 38 then 6 else if k = 44 then 7 else 8
abbrev nilS : Value := .slice none 0 0
abbrev bc (K : Kon) (L : Nat → Bool) (G : Nat → Value) : Array Value :=
  #[if L 53 = true then G 5 else nilS, if L 55 = true then G 11 else nilS, if L 57 = true then .int .u64 K.c else .int .u64 0, if L 59 = true then .int .u64 K.t else .int .u64 0, if L 61 = true then .int .u64 K.s else .int .u64 0, if L 63 = true then G 38 else nilS, if L 65 = true then G 44 else nilS, if L 67 = true then G 50 else nilS]
def Cl : List (Nat × Nat) := [(53, 5), (53, 51), (55, 11), (55, 51), (57, 51), (59, 51), (61, 51), (63, 38), (63, 51), (65, 44), (65, 51), (67, 50), (67, 51)]
def up (G : Nat → Value) (i : Nat) (v : Value) : Nat → Value := fun k => if k = i then v else G k
structure Inv (K : Kon) (L : Nat → Bool) (a : Act) (w : World) (G : Nat → Value) : Prop where
  sz : a.tmps.size = 72
  df : a.defers = K.dd
  f0 : a.eval (.tmp 0) = .pointer (some ⟨K.b, 0, none⟩)
  f2 : a.eval (.tmp 2) = .pointer (some ⟨K.w0.heap.size, 0, none⟩)
  e : ∀ k, k < 68 → L k = true → ∀ d, D k = some d → a.eval (.tmp d) = val K G k
  si : SI K.lo K.hi K.w0 K.b K.A K.bm K.g w
  bx : Mem w K.w0.heap.size 39 (bc K L G)
  ow : ∀ k, isC k → L k = true → OwnU w K.w0.heap.size (G k) (K.A (kd k))
  cl : ∀ p ∈ Cl, L p.1 = true → L p.2 = true
section
variable {K : Kon} {L : Nat → Bool} {a : Act} {w w' : World} {G : Nat → Value}
theorem act_part (h : Inv K L a w G) {i d : Nat} (hi : i < 68) (hd : D i = some d) (G' : Nat → Value) (hv : ∀ k, k < 68 → k ≠ i → L k = true → val K G' k = val K G k) :
    (a.put (some d) (val K G' i)).tmps.size = 72 ∧ (a.put (some d) (val K G' i)).eval (.tmp 0) = .pointer (some ⟨K.b, 0, none⟩) ∧ (a.put (some d) (val K G' i)).eval (.tmp 2) = .pointer (some ⟨K.w0.heap.size, 0, none⟩) ∧
    ∀ k, k < 68 → CelR.mark L i k = true → ∀ x, D k = some x → (a.put (some d) (val K G' i)).eval (.tmp x) = val K G' k := by
  obtain ⟨h57, n0, n2⟩ := D_ok i d hd
  refine ⟨by simp [Act.put, h.sz], (eval_other n0).trans h.f0, (eval_other n2).trans h.f2, fun k hk hL x hx => ?_⟩
  by_cases e : k = i
  · subst e
    rw [hd] at hx
    injection hx with hx
    subst hx
    exact eval_same (by rw [h.sz]; exact h57)
  · rw [mark_ne e] at hL
    rw [eval_other (fun e2 => D_inj k i e x hx (by rw [hd, e2])), h.e k hk hL x hx, hv k hk e hL]
theorem cl_part (h : Inv K L a w G) {i : Nat} (hp : ∀ p ∈ Cl, p.1 = i → L p.2 = true) : ∀ p ∈ Cl, CelR.mark L i p.1 = true → CelR.mark L i p.2 = true := by
  intro p hm hL
  by_cases e : p.1 = i
  · exact mark_old (hp p hm e)
  · rw [mark_ne e] at hL
    exact mark_old (h.cl p hm hL)
theorem bc_ne {i : Nat} (hi : i ≠ 53 ∧ i ≠ 55 ∧ i ≠ 57 ∧ i ≠ 59 ∧ i ≠ 61 ∧ i ≠ 63 ∧ i ≠ 65 ∧ i ≠ 67) (G : Nat → Value) : bc K (CelR.mark L i) G = bc K L G := by
  unfold bc
  rw [mark_ne (Ne.symm hi.1), mark_ne (Ne.symm hi.2.1), mark_ne (Ne.symm hi.2.2.1), mark_ne (Ne.symm hi.2.2.2.1), mark_ne (Ne.symm hi.2.2.2.2.1), mark_ne (Ne.symm hi.2.2.2.2.2.1), mark_ne (Ne.symm hi.2.2.2.2.2.2.1), mark_ne (Ne.symm hi.2.2.2.2.2.2.2)]
/-- An operation that reads. -/
theorem Inv.pure (h : Inv K L a w G) {i d : Nat} (hi : i < 68) (hd : D i = some d) (hc : ¬ isC i) (hb : i ≠ 53 ∧ i ≠ 55 ∧ i ≠ 57 ∧ i ≠ 59 ∧ i ≠ 61 ∧ i ≠ 63 ∧ i ≠ 65 ∧ i ≠ 67) (hp : ∀ p ∈ Cl, p.1 = i → L p.2 = true) :
    Inv K (CelR.mark L i) (a.put (some d) (val K G i)) w G := by
  obtain ⟨s, e0, e2, ee⟩ := act_part h hi hd G (fun _ _ _ _ => rfl)
  refine ⟨s, h.df, e0, e2, ee, h.si, by rw [bc_ne hb]; exact h.bx, fun k hk hL => ?_, cl_part h hp⟩
  exact h.ow k hk (by rwa [mark_ne (fun (e : k = i) => hc (e ▸ hk))] at hL)
theorem val_up {i : Nat} (hc : isC i) (v : Value) (k : Nat) (hk : k ≠ i) : val K (up G i v) k = val K G k := by
  unfold isC at hc
  unfold val
  split <;> first | rfl | (simp only [up]; rw [if_neg hk])
theorem bc_up {i : Nat} (h : Inv K L a w G) (hc : isC i) (hu : L i = false) (v : Value) : bc K L (up G i v) = bc K L G := by
  have key : ∀ s k, (s, k) ∈ Cl → isC k → (if L s = true then up G i v k else nilS) = (if L s = true then G k else nilS) := by
    intro s k hm hk
    by_cases hs : L s = true
    · rw [if_pos hs, if_pos hs]
      have := h.cl (s, k) hm hs
      simp only at this
      unfold up
      rw [if_neg]
      rintro rfl
      rw [this] at hu
      cases hu
    · rw [if_neg hs, if_neg hs]
  unfold bc
  rw [key 53 5 (by decide) (by unfold isC; omega), key 55 11 (by decide) (by unfold isC; omega), key 63 38 (by decide) (by unfold isC; omega), key 65 44 (by decide) (by unfold isC; omega), key 67 50 (by decide) (by unfold isC; omega)]
/-- A copy is made. -/
theorem Inv.copy (h : Inv K L a w G) {i d : Nat} (hi : i < 68) (hd : D i = some d) (hc : isC i) (hu : L i = false) (v : Value) (hb : Below w.heap.size w w') (ho : OwnU w' w.heap.size v (K.A (kd i))) :
    Inv K (CelR.mark L i) (a.put (some d) (val K (up G i v) i)) w' (up G i v) := by
  obtain ⟨s, e0, e2, ee⟩ := act_part h hi hd (up G i v) (fun k _ hk _ => val_up hc v k hk)
  have hn : i ≠ 53 ∧ i ≠ 55 ∧ i ≠ 57 ∧ i ≠ 59 ∧ i ≠ 61 ∧ i ≠ 63 ∧ i ≠ 65 ∧ i ≠ 67 := by unfold isC at hc; omega
  refine ⟨s, h.df, e0, e2, ee, h.si.below hb, ?_, fun k hk hL => ?_, cl_part h (fun p hm e => ?_)⟩
  · rw [bc_ne hn, bc_up h hc hu]
    exact h.bx.below hb h.bx.lt
  · by_cases e : k = i
    · subst e
      rw [show up G k v k = v from if_pos rfl]
      exact own_mono ho (Nat.le_of_lt h.si.lt)
    · rw [mark_ne e] at hL
      rw [show up G i v k = G k from if_neg e]
      exact own_old (h.ow k hk hL) (Old.of_below hb)
  · exfalso
    unfold isC at hc
    have : ∀ p ∈ Cl, p.1 ≠ 5 ∧ p.1 ≠ 11 ∧ p.1 ≠ 38 ∧ p.1 ≠ 44 ∧ p.1 ≠ 50 := by decide
    have := this p hm
    omega
/-- A field is filled: the world's part. -/
theorem Inv.fill (h : Inv K L a w G) (hh : K.hi ≤ K.w0.heap.size) {i : Nat} (hi : ¬ isC i) (hd : D i = none) (hp : ∀ p ∈ Cl, p.1 = i → L p.2 = true) {w1 : World} (hsi : SI K.lo K.hi K.w0 K.b K.A K.bm K.g w1) (hbx : Mem w1 K.w0.heap.size 39 (bc K (CelR.mark L i) G)) (how : ∀ v xs, OwnU w K.w0.heap.size v xs → OwnU w1 K.w0.heap.size v xs) :
    Inv K (CelR.mark L i) a w1 G := by
  refine ⟨h.sz, h.df, h.f0, h.f2, fun k hk hL d hkd => ?_, hsi, hbx, fun k hk hL => ?_, cl_part h hp⟩
  · by_cases e : k = i
    · rw [e, hd] at hkd; cases hkd
    · rw [mark_ne e] at hL
      exact h.e k hk hL d hkd
  · rw [mark_ne (fun (e : k = i) => hi (e ▸ hk))] at hL
    exact how _ _ (h.ow k hk hL)
theorem Inv.far (h : Inv K L a w G) (j : Nat) (u : Value) : ∀ v xs, OwnU w K.w0.heap.size v xs → OwnU (w.setCell ⟨K.w0.heap.size, j, none⟩ u) K.w0.heap.size v xs :=
  fun v xs ho => own_far ho (own_ne_mem ho h.bx (by decide)) u
end
def Pd : Nat → List Nat := fun k => ([[], [0], [1], [2], [3], [4], [], [6], [7], [8], [9], [5, 10], [], [12], [13], [14], [15], [16], [17], [], [19], [20], [21], [22], [23], [24], [], [26], [27], [28], [29], [30], [31], [], [33], [34], [35], [36], [11, 37], [], [39], [40], [41], [42], [38, 43], [], [45], [46], [47], [48], [44, 49], [50], [5, 51], [5, 51, 52], [5, 51, 53], [11, 51, 54], [5, 51, 55], [18, 51, 56], [5, 51, 57], [25, 51, 58], [5, 51, 59], [32, 51, 60], [5, 51, 61], [38, 51, 62], [5, 51, 63], [44, 51, 64], [5, 51, 65], [50, 51, 66]] : List (List Nat)).getD k []
theorem preds_ok : ((List.range 68).all fun i => (Pd i).all fun j => match ops[i]? with | some o => o.after.toList.any fun e => Region.binds .any e && e.on == j | none => false) = true := by kernel_rfl
theorem preds_lt : ((List.range 68).all fun i => match ops[i]? with | some o => o.after.toList.all fun e => !Region.binds .any e || decide (e.on < i) | none => false) = true := by kernel_rfl
theorem pr_of {L : Nat → Bool} {i : Nat} (hi : i < 68) (h : ∀ o, ops[i]? = some o → ∀ e ∈ o.after, Region.binds .any e = true → L e.on = true) : ∀ j ∈ Pd i, L j = true := by
  intro j hj
  have h1 := List.all_eq_true.1 (List.all_eq_true.1 preds_ok i (List.mem_range.2 hi)) j hj
  cases ho : ops[i]? with
  | none => rw [ho] at h1; cases h1
  | some o =>
    rw [ho] at h1
    obtain ⟨e, he, hb⟩ := List.any_eq_true.1 h1
    simp only [Bool.and_eq_true, beq_iff_eq] at hb
    rw [← hb.2]
    exact h o ho e (by simpa using he) hb.1
theorem live (L : Nat → Bool) (h : ∃ i, i < ops.size ∧ L i = false) : ∃ i, i < ops.size ∧ L i = false ∧ ∀ o, ops[i]? = some o → ∀ e ∈ o.after, Region.binds .any e = true → L e.on = true := by
  obtain ⟨i, hi, hL⟩ := h
  induction i using Nat.strongRecOn with
  | _ i ih =>
    by_cases hall : ∀ j, j < i → L j = true
    · refine ⟨i, hi, hL, fun o ho e he hb => ?_⟩
      have h1 := List.all_eq_true.1 preds_lt i (List.mem_range.2 (by rw [ops_size] at hi; exact hi))
      rw [ho] at h1
      have := List.all_eq_true.1 h1 e (by simpa using he)
      rw [hb] at this
      exact hall _ (by simpa using this)
    · by_cases hx : ∃ j, j < i ∧ L j = false
      · obtain ⟨j, hj, hjL⟩ := hx
        exact ih j hj (Nat.lt_trans hj hi) hjL
      · exact absurd (fun j hj => by
          cases hb : L j with
          | true => rfl
          | false => exact absurd ⟨j, hj, hb⟩ hx) hall
theorem cl_pd : ∀ p ∈ Cl, p.2 ∈ Pd p.1 := by decide
theorem hp_of {L : Nat → Bool} {i : Nat} (hp : ∀ j ∈ Pd i, L j = true) : ∀ p ∈ Cl, p.1 = i → L p.2 = true := fun p hm e => hp _ (e ▸ cl_pd p hm)
/-- A call. -/
theorem op_call {P : Program} {ops : Array Oper} {Q : Exit → Act → World → Prop} {i : Nat} {o : Oper} {a : Act} {w : World} {K : Act → World → Prop} {f : FuncId} {args : Array Value} {R : Ending → World → Prop} (h : ops[i]? = some o) (hg : o.guard = none) (hr : (execOp a.eval o).run P w = .ok (.enter f args) w) (hc : Calls P f args w R)
    (hK : ∀ e w', R e w' → ∃ v, e = .returned v ∧ K (a.put o.dst v) w') : wpOp P ops Q i K a w := by
  unfold wpOp
  rw [h]
  have hw : Region.wanted o (yielded ops a.tmps) = true := by simp [Region.wanted, hg]
  simp only [hw, if_true]
  left
  unfold Oper.wp
  rw [hr, Oper.upon_enter]
  refine hc.mono fun e w' he => ?_
  obtain ⟨v, rfl, hk⟩ := hK e w' he
  exact hk
theorem run_nil (b : Nat) (w : World) : ∀ x : Value, x = .pointer (some ⟨b, 0, none⟩) → True := fun _ _ => trivial
theorem run_field (b j : Nat) (w : World) : (Instr.fieldAt 134 (.pointer (some ⟨b, 0, none⟩)) 1).run Try.prog w = .ok (.pointer (some ⟨b, 2, none⟩)) w := by kernel_rfl
theorem run_index (g n : Nat) (hn : n = 1) (w : World) : (Instr.indexAt TR (.slice (some ⟨g, 0, none⟩) n n) (.int .i64 0)).run Try.prog w = .ok (.pointer (some ⟨g, 0, none⟩)) w := by subst hn; kernel_rfl
theorem run_loadM {a : Addr} {m : Nat} {w : World} (h : w.cell? a = some (.map (some m))) : (Instr.loadAt TMap (.pointer (some a))).run Try.prog w = .ok (.map (some m)) w := by simp [go_sem, h]
theorem run_loadU {a : Addr} {x : Int} {w : World} (h : w.cell? a = some (.int .u64 x)) : (Instr.loadAt TU (.pointer (some a))).run Try.prog w = .ok (.int .u64 x) w := by simp [go_sem, h]
theorem run_storeU {a : Addr} {x : Int} {u : Value} {w : World} (h : w.cell? a = some u) (hf : w.frozen? a = false) : (Instr.storeAt TU (.pointer (some a)) (.int .u64 x)).run Try.prog w = .ok () (w.setCell a (.int .u64 x)) := by simp [go_sem, h, hf]
theorem run_img0 (b : Nat) (w : World) : (Instr.fieldAt 39 (.pointer (some ⟨b, 0, none⟩)) 0).run Try.prog w = .ok (.pointer (some ⟨b, 0, none⟩)) w := by kernel_rfl
theorem run_img1 (b : Nat) (w : World) : (Instr.fieldAt 39 (.pointer (some ⟨b, 0, none⟩)) 1).run Try.prog w = .ok (.pointer (some ⟨b, 1, none⟩)) w := by kernel_rfl
theorem run_img2 (b : Nat) (w : World) : (Instr.fieldAt 39 (.pointer (some ⟨b, 0, none⟩)) 2).run Try.prog w = .ok (.pointer (some ⟨b, 2, none⟩)) w := by kernel_rfl
theorem run_img3 (b : Nat) (w : World) : (Instr.fieldAt 39 (.pointer (some ⟨b, 0, none⟩)) 3).run Try.prog w = .ok (.pointer (some ⟨b, 3, none⟩)) w := by kernel_rfl
theorem run_img4 (b : Nat) (w : World) : (Instr.fieldAt 39 (.pointer (some ⟨b, 0, none⟩)) 4).run Try.prog w = .ok (.pointer (some ⟨b, 4, none⟩)) w := by kernel_rfl
theorem run_img5 (b : Nat) (w : World) : (Instr.fieldAt 39 (.pointer (some ⟨b, 0, none⟩)) 5).run Try.prog w = .ok (.pointer (some ⟨b, 5, none⟩)) w := by kernel_rfl
theorem run_img6 (b : Nat) (w : World) : (Instr.fieldAt 39 (.pointer (some ⟨b, 0, none⟩)) 6).run Try.prog w = .ok (.pointer (some ⟨b, 6, none⟩)) w := by kernel_rfl
theorem run_img7 (b : Nat) (w : World) : (Instr.fieldAt 39 (.pointer (some ⟨b, 0, none⟩)) 7).run Try.prog w = .ok (.pointer (some ⟨b, 7, none⟩)) w := by kernel_rfl
theorem o0 : ∃ t p f, ops[0]? = some ⟨some 13, .move (.tmp 0), t, p, f, none⟩ := ⟨_, _, _, rfl⟩
theorem o1 : ∃ t p f, ops[1]? = some ⟨some 14, .nilCheck (.tmp 13), t, p, f, none⟩ := ⟨_, _, _, rfl⟩
theorem o2 : ∃ t p f, ops[2]? = some ⟨some 15, .fieldAddr 134 (.tmp 14) 1, t, p, f, none⟩ := ⟨_, _, _, rfl⟩
theorem o3 : ∃ t p f, ops[3]? = some ⟨some 16, .load TMap (.tmp 15), t, p, f, none⟩ := ⟨_, _, _, rfl⟩
theorem o4 : ∃ t p f, ops[4]? = some ⟨some 17, .lookup TMap (.tmp 16) (.const (.int .i64 1)) false, t, p, f, none⟩ := ⟨_, _, _, rfl⟩
theorem o5 : ∃ t p f, ops[5]? = some ⟨some 18, .call { callee := .value (.func 79), args := #[.tmp 17], argTypes := #[TR] }, t, p, f, none⟩ := ⟨_, _, _, rfl⟩
theorem o6 : ∃ t p f, ops[6]? = some ⟨some 19, .move (.tmp 0), t, p, f, none⟩ := ⟨_, _, _, rfl⟩
theorem o7 : ∃ t p f, ops[7]? = some ⟨some 20, .nilCheck (.tmp 19), t, p, f, none⟩ := ⟨_, _, _, rfl⟩
theorem o8 : ∃ t p f, ops[8]? = some ⟨some 21, .fieldAddr 134 (.tmp 20) 1, t, p, f, none⟩ := ⟨_, _, _, rfl⟩
theorem o9 : ∃ t p f, ops[9]? = some ⟨some 22, .load TMap (.tmp 21), t, p, f, none⟩ := ⟨_, _, _, rfl⟩
theorem o10 : ∃ t p f, ops[10]? = some ⟨some 23, .lookup TMap (.tmp 22) (.const (.int .i64 2)) false, t, p, f, none⟩ := ⟨_, _, _, rfl⟩
theorem o11 : ∃ t p f, ops[11]? = some ⟨some 24, .call { callee := .value (.func 79), args := #[.tmp 23], argTypes := #[TR] }, t, p, f, none⟩ := ⟨_, _, _, rfl⟩
theorem o12 : ∃ t p f, ops[12]? = some ⟨some 25, .move (.tmp 0), t, p, f, none⟩ := ⟨_, _, _, rfl⟩
theorem o13 : ∃ t p f, ops[13]? = some ⟨some 26, .nilCheck (.tmp 25), t, p, f, none⟩ := ⟨_, _, _, rfl⟩
theorem o14 : ∃ t p f, ops[14]? = some ⟨some 27, .fieldAddr 134 (.tmp 26) 1, t, p, f, none⟩ := ⟨_, _, _, rfl⟩
theorem o15 : ∃ t p f, ops[15]? = some ⟨some 28, .load TMap (.tmp 27), t, p, f, none⟩ := ⟨_, _, _, rfl⟩
theorem o16 : ∃ t p f, ops[16]? = some ⟨some 29, .lookup TMap (.tmp 28) (.const (.int .i64 3)) false, t, p, f, none⟩ := ⟨_, _, _, rfl⟩
theorem o17 : ∃ t p f, ops[17]? = some ⟨some 30, .indexAddr TR (.tmp 29) (.const (.int .i64 0)), t, p, f, none⟩ := ⟨_, _, _, rfl⟩
theorem o18 : ∃ t p f, ops[18]? = some ⟨some 31, .load TU (.tmp 30), t, p, f, none⟩ := ⟨_, _, _, rfl⟩
theorem o19 : ∃ t p f, ops[19]? = some ⟨some 32, .move (.tmp 0), t, p, f, none⟩ := ⟨_, _, _, rfl⟩
theorem o20 : ∃ t p f, ops[20]? = some ⟨some 33, .nilCheck (.tmp 32), t, p, f, none⟩ := ⟨_, _, _, rfl⟩
theorem o21 : ∃ t p f, ops[21]? = some ⟨some 34, .fieldAddr 134 (.tmp 33) 1, t, p, f, none⟩ := ⟨_, _, _, rfl⟩
theorem o22 : ∃ t p f, ops[22]? = some ⟨some 35, .load TMap (.tmp 34), t, p, f, none⟩ := ⟨_, _, _, rfl⟩
theorem o23 : ∃ t p f, ops[23]? = some ⟨some 36, .lookup TMap (.tmp 35) (.const (.int .i64 4)) false, t, p, f, none⟩ := ⟨_, _, _, rfl⟩
theorem o24 : ∃ t p f, ops[24]? = some ⟨some 37, .indexAddr TR (.tmp 36) (.const (.int .i64 0)), t, p, f, none⟩ := ⟨_, _, _, rfl⟩
theorem o25 : ∃ t p f, ops[25]? = some ⟨some 38, .load TU (.tmp 37), t, p, f, none⟩ := ⟨_, _, _, rfl⟩
theorem o26 : ∃ t p f, ops[26]? = some ⟨some 39, .move (.tmp 0), t, p, f, none⟩ := ⟨_, _, _, rfl⟩
theorem o27 : ∃ t p f, ops[27]? = some ⟨some 40, .nilCheck (.tmp 39), t, p, f, none⟩ := ⟨_, _, _, rfl⟩
theorem o28 : ∃ t p f, ops[28]? = some ⟨some 41, .fieldAddr 134 (.tmp 40) 1, t, p, f, none⟩ := ⟨_, _, _, rfl⟩
theorem o29 : ∃ t p f, ops[29]? = some ⟨some 42, .load TMap (.tmp 41), t, p, f, none⟩ := ⟨_, _, _, rfl⟩
theorem o30 : ∃ t p f, ops[30]? = some ⟨some 43, .lookup TMap (.tmp 42) (.const (.int .i64 5)) false, t, p, f, none⟩ := ⟨_, _, _, rfl⟩
theorem o31 : ∃ t p f, ops[31]? = some ⟨some 44, .indexAddr TR (.tmp 43) (.const (.int .i64 0)), t, p, f, none⟩ := ⟨_, _, _, rfl⟩
theorem o32 : ∃ t p f, ops[32]? = some ⟨some 45, .load TU (.tmp 44), t, p, f, none⟩ := ⟨_, _, _, rfl⟩
theorem o33 : ∃ t p f, ops[33]? = some ⟨some 46, .move (.tmp 0), t, p, f, none⟩ := ⟨_, _, _, rfl⟩
theorem o34 : ∃ t p f, ops[34]? = some ⟨some 47, .nilCheck (.tmp 46), t, p, f, none⟩ := ⟨_, _, _, rfl⟩
theorem o35 : ∃ t p f, ops[35]? = some ⟨some 48, .fieldAddr 134 (.tmp 47) 1, t, p, f, none⟩ := ⟨_, _, _, rfl⟩
theorem o36 : ∃ t p f, ops[36]? = some ⟨some 49, .load TMap (.tmp 48), t, p, f, none⟩ := ⟨_, _, _, rfl⟩
theorem o37 : ∃ t p f, ops[37]? = some ⟨some 50, .lookup TMap (.tmp 49) (.const (.int .i64 6)) false, t, p, f, none⟩ := ⟨_, _, _, rfl⟩
theorem o38 : ∃ t p f, ops[38]? = some ⟨some 51, .call { callee := .value (.func 79), args := #[.tmp 50], argTypes := #[TR] }, t, p, f, none⟩ := ⟨_, _, _, rfl⟩
theorem o39 : ∃ t p f, ops[39]? = some ⟨some 52, .move (.tmp 0), t, p, f, none⟩ := ⟨_, _, _, rfl⟩
theorem o40 : ∃ t p f, ops[40]? = some ⟨some 53, .nilCheck (.tmp 52), t, p, f, none⟩ := ⟨_, _, _, rfl⟩
theorem o41 : ∃ t p f, ops[41]? = some ⟨some 54, .fieldAddr 134 (.tmp 53) 1, t, p, f, none⟩ := ⟨_, _, _, rfl⟩
theorem o42 : ∃ t p f, ops[42]? = some ⟨some 55, .load TMap (.tmp 54), t, p, f, none⟩ := ⟨_, _, _, rfl⟩
theorem o43 : ∃ t p f, ops[43]? = some ⟨some 56, .lookup TMap (.tmp 55) (.const (.int .i64 7)) false, t, p, f, none⟩ := ⟨_, _, _, rfl⟩
theorem o44 : ∃ t p f, ops[44]? = some ⟨some 57, .call { callee := .value (.func 79), args := #[.tmp 56], argTypes := #[TR] }, t, p, f, none⟩ := ⟨_, _, _, rfl⟩
theorem o45 : ∃ t p f, ops[45]? = some ⟨some 58, .move (.tmp 0), t, p, f, none⟩ := ⟨_, _, _, rfl⟩
theorem o46 : ∃ t p f, ops[46]? = some ⟨some 59, .nilCheck (.tmp 58), t, p, f, none⟩ := ⟨_, _, _, rfl⟩
theorem o47 : ∃ t p f, ops[47]? = some ⟨some 60, .fieldAddr 134 (.tmp 59) 1, t, p, f, none⟩ := ⟨_, _, _, rfl⟩
theorem o48 : ∃ t p f, ops[48]? = some ⟨some 61, .load TMap (.tmp 60), t, p, f, none⟩ := ⟨_, _, _, rfl⟩
theorem o49 : ∃ t p f, ops[49]? = some ⟨some 62, .lookup TMap (.tmp 61) (.const (.int .i64 8)) false, t, p, f, none⟩ := ⟨_, _, _, rfl⟩
theorem o50 : ∃ t p f, ops[50]? = some ⟨some 63, .call { callee := .value (.func 79), args := #[.tmp 62], argTypes := #[TR] }, t, p, f, none⟩ := ⟨_, _, _, rfl⟩
theorem o51 : ∃ t p f, ops[51]? = some ⟨none, .store 39 (.tmp 2) (.const (.agg #[.slice none 0 0, .slice none 0 0, .int .u64 0, .int .u64 0, .int .u64 0, .slice none 0 0, .slice none 0 0, .slice none 0 0])), t, p, f, none⟩ := ⟨_, _, _, rfl⟩
theorem o52 : ∃ t p f, ops[52]? = some ⟨some 64, .fieldAddr 39 (.tmp 2) 0, t, p, f, none⟩ := ⟨_, _, _, rfl⟩
theorem o53 : ∃ t p f, ops[53]? = some ⟨none, .store TR (.tmp 64) (.tmp 18), t, p, f, none⟩ := ⟨_, _, _, rfl⟩
theorem o54 : ∃ t p f, ops[54]? = some ⟨some 65, .fieldAddr 39 (.tmp 2) 1, t, p, f, none⟩ := ⟨_, _, _, rfl⟩
theorem o55 : ∃ t p f, ops[55]? = some ⟨none, .store TR (.tmp 65) (.tmp 24), t, p, f, none⟩ := ⟨_, _, _, rfl⟩
theorem o56 : ∃ t p f, ops[56]? = some ⟨some 66, .fieldAddr 39 (.tmp 2) 2, t, p, f, none⟩ := ⟨_, _, _, rfl⟩
theorem o57 : ∃ t p f, ops[57]? = some ⟨none, .store TU (.tmp 66) (.tmp 31), t, p, f, none⟩ := ⟨_, _, _, rfl⟩
theorem o58 : ∃ t p f, ops[58]? = some ⟨some 67, .fieldAddr 39 (.tmp 2) 3, t, p, f, none⟩ := ⟨_, _, _, rfl⟩
theorem o59 : ∃ t p f, ops[59]? = some ⟨none, .store TU (.tmp 67) (.tmp 38), t, p, f, none⟩ := ⟨_, _, _, rfl⟩
theorem o60 : ∃ t p f, ops[60]? = some ⟨some 68, .fieldAddr 39 (.tmp 2) 4, t, p, f, none⟩ := ⟨_, _, _, rfl⟩
theorem o61 : ∃ t p f, ops[61]? = some ⟨none, .store TU (.tmp 68) (.tmp 45), t, p, f, none⟩ := ⟨_, _, _, rfl⟩
theorem o62 : ∃ t p f, ops[62]? = some ⟨some 69, .fieldAddr 39 (.tmp 2) 5, t, p, f, none⟩ := ⟨_, _, _, rfl⟩
theorem o63 : ∃ t p f, ops[63]? = some ⟨none, .store TR (.tmp 69) (.tmp 51), t, p, f, none⟩ := ⟨_, _, _, rfl⟩
theorem o64 : ∃ t p f, ops[64]? = some ⟨some 70, .fieldAddr 39 (.tmp 2) 6, t, p, f, none⟩ := ⟨_, _, _, rfl⟩
theorem o65 : ∃ t p f, ops[65]? = some ⟨none, .store TR (.tmp 70) (.tmp 57), t, p, f, none⟩ := ⟨_, _, _, rfl⟩
theorem o66 : ∃ t p f, ops[66]? = some ⟨some 71, .fieldAddr 39 (.tmp 2) 7, t, p, f, none⟩ := ⟨_, _, _, rfl⟩
theorem o67 : ∃ t p f, ops[67]? = some ⟨none, .store TR (.tmp 71) (.tmp 63), t, p, f, none⟩ := ⟨_, _, _, rfl⟩
end Go.Proofs.Ytpjbmbipkmpkhaa.CelJ
