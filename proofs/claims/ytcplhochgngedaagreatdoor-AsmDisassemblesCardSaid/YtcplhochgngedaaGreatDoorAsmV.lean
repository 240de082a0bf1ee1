/-
  Layer 4 (asm), plain mathematics: what the lines of a program's text are, and that the text is read as this program.
-/
import Derived.Test.YtcplhochgngedaaGreatDoorDisC
namespace Go.Proofs.YtcplhochgngedaaGreatDoor.AsmV
open PlainT IsaE IsaS IsaA IsaB IsaF IsaP IsaQ IsaX IsaR AsmS AsmT DisA DisB DisC
set_option linter.unusedVariables false

/-! ### Names of labels. -/
theorem lab_ok : ∀ n : Fin 70, isName (108 :: Lib.itoa (n.val : Int)) = true := by decide +kernel
theorem cnt_65 (p : List In) (j : Nat) (hj : j ≤ 65) : cnt p j ≤ 65 := by have := cnt_le p j; omega
theorem nameOf_ok (p : List In) (j : Nat) (hj : j ≤ 65) : isName (nameOf p j) = true := by
  have h := cnt_65 p j hj
  exact lab_ok ⟨cnt p j + 1, by omega⟩
theorem nameOf_inj {p : List In} {i j : Nat} (hi : i ≤ 65) (hj : j ≤ 65) (h : nameOf p i = nameOf p j) : cnt p i = cnt p j := by
  have h1 := cnt_65 p i hi
  have h2 := cnt_65 p j hj
  unfold nameOf at h
  injection h with _ h
  have e1 := num_itoa ((cnt p i + 1 : Nat) : Int) (by unfold InInt; omega)
  have e2 := num_itoa ((cnt p j + 1 : Nat) : Int) (by unfold InInt; omega)
  rw [h, e2] at e1
  injection e1 with e1
  omega
theorem name_apart {p : List In} {i j : Nat} (hi : i ≤ 65) (hj : j ≤ 65) (h1 : R p i = true) (h2 : R p j = true) (h : nameOf p i = nameOf p j) : i = j := by
  have hc := nameOf_inj hi hj h
  rcases Nat.lt_trichotomy i j with c | c | c
  · have := cnt_mono p (show i + 1 ≤ j by omega)
    rw [cnt_succ, if_pos h1] at this
    omega
  · exact c
  · have := cnt_mono p (show j + 1 ≤ i by omega)
    rw [cnt_succ, if_pos h2] at this
    omega

/-! ### Bytes of a line. -/
/-- No line feed, no '#'. -/
def Plain (l : List UInt8) : Prop := ∀ c ∈ l, c ≠ 10 ∧ c ≠ 35
theorem Plain.app {a b : List UInt8} (h : Plain a) (k : Plain b) : Plain (a ++ b) := fun c hc => (List.mem_append.1 hc).elim (h c) (k c)
theorem digit_plain {c : UInt8} (h : 48 ≤ c.toNat ∧ c.toNat ≤ 57) : c ≠ 10 ∧ c ≠ 35 := by
  refine ⟨fun e => ?_, fun e => ?_⟩ <;> (subst e; revert h; decide)
theorem itoa_plain (x : Int) : Plain (Lib.itoa x) := by
  intro c hc
  unfold Lib.itoa at hc
  split at hc
  · rcases List.mem_cons.1 hc with rfl | hc
    · decide
    · exact digit_plain (digits_all _ c hc)
  · exact digit_plain (digits_all _ c hc)
theorem name_plain (k : Nat) (hk : k < 18) (i : Int) (hi : k = 3 → 0 ≤ i ∧ i < 22) : Plain (nameV k i).data.toList := by
  have a1 : ∀ n : Fin 22, ∀ c ∈ (fnm n.val).data.toList, c ≠ 10 ∧ c ≠ 35 := by decide
  have a2 : ∀ k : Fin 18, k.val ≠ 3 → ∀ c ∈ (opm k.val).data.toList, c ≠ 10 ∧ c ≠ 35 := by decide
  unfold nameV
  split
  · rename_i h
    obtain ⟨h0, h1⟩ := hi h
    exact a1 ⟨i.toNat, by omega⟩
  · rename_i h
    exact a2 ⟨k, hk⟩ h
theorem oper_plain (l : UInt8) (x : Int) : Plain (operB l x).data.toList := by
  have e : (operB l x).data.toList = operL l x := by unfold operB; simp
  rw [e]
  unfold operL
  split
  · exact itoa_plain x
  · intro c hc
    rcases List.mem_cons.1 hc with rfl | hc
    · decide
    · exact itoa_plain x c hc
theorem flat_plain (x : List UInt8) (r : List (List UInt8)) (h : ∀ y ∈ x :: r, Plain y) : Plain (flat x r) := by
  unfold flat
  refine Plain.app (h x (by simp)) ?_
  intro c hc
  obtain ⟨y, hy, hc⟩ := List.mem_flatMap.1 hc
  rcases List.mem_cons.1 hc with rfl | hc
  · decide
  · exact h y (by simp [hy]) c hc
/-- A valid instruction's operation. -/
theorem op_of {x : In} (h : chkI x = 0) : ∃ k : Nat, k < 18 ∧ x.1 = (k : Int) := by
  obtain ⟨op, a, b, c, i⟩ := x
  unfold chkI at h
  simp only at h ⊢
  have hr : 0 ≤ op ∧ op < 18 := by
    unfold chk at h
    by_cases hh : 0 ≤ op ∧ op < 18
    · exact hh
    · rw [if_neg hh] at h
      cases h
  obtain ⟨k, rfl⟩ := Int.eq_ofNat_of_zero_le hr.1
  exact ⟨k, by omega, rfl⟩
/-- The words of an instruction's text. -/
def wordsI (k : Nat) (a b c i : Int) : List (List UInt8) := (nameV k i).data.toList :: (letters k).map fun l => (operB l (fldI a b c i l)).data.toList
theorem text_words {k : Nat} (hk : k < 18) {a b c i : Int} (h : chk k a b c i = 0) : wordsL (bts (formatV k a b c i)) = wordsI k a b c i := by
  rw [text_of h]
  exact wordsL_flat _ _ (nice_words hk h)
theorem text_plain {k : Nat} (hk : k < 18) {a b c i : Int} (h : chk k a b c i = 0) : Plain (bts (formatV k a b c i)) := by
  rw [text_of h]
  have e : bts ⟨(flat (nameV k i).data.toList ((letters k).map fun l => (operB l (fldI a b c i l)).data.toList)).toArray⟩ = flat (nameV k i).data.toList ((letters k).map fun l => (operB l (fldI a b c i l)).data.toList) := bytes_mk _
  rw [e]
  refine flat_plain _ _ fun y hy => ?_
  rcases List.mem_cons.1 hy with rfl | hy
  · exact name_plain k hk i (imm_fn hk h)
  · obtain ⟨l, _, rfl⟩ := List.mem_map.1 hy
    exact oper_plain l _
theorem bare_plain {l : List UInt8} (h : Plain l) : bareL l = l := by
  unfold bareL
  exact takeWhile_all fun c hc => (h c hc).2

/-! ### What the lines are. -/
theorem itoa_no_name (x : Int) : isName (Lib.itoa x) = false := by
  cases hx : isName (Lib.itoa x) with
  | false => rfl
  | true =>
    exfalso
    unfold isName at hx
    rw [Bool.and_eq_true] at hx
    have h2 := hx.2
    have hh : ∀ c r, Lib.itoa x = c :: r → letterB c = false := by
      intro c r e
      have hc : c ∈ Lib.itoa x := by rw [e]; simp
      unfold Lib.itoa at hc
      have hd : (48 ≤ c.toNat ∧ c.toNat ≤ 57) ∨ c = 45 := by
        split at hc
        · rcases List.mem_cons.1 hc with rfl | hc
          · exact .inr rfl
          · exact .inl (digits_all _ c hc)
        · exact .inl (digits_all _ c hc)
      unfold letterB
      rcases hd with hd | rfl
      · rw [decide_eq_false_iff_not]
        omega
      · decide
    cases he : Lib.itoa x with
    | nil => exact itoa_ne x he
    | cons c r =>
      rw [he] at h2
      simp only [Bool.and_eq_true] at h2
      rw [hh c r he] at h2
      cases h2.1
theorem label_none {k : Nat} (hk : k < 18) {a b c i : Int} (h : chk k a b c i = 0) : labelOf (wordsI k a b c i) = none := by
  unfold wordsI
  cases hl : letters k with
  | cons y r =>
    rfl
  | nil =>
    have a2 : ∀ k : Fin 18, letters k.val = [] → k.val ≠ 3 ∧ (opm k.val).data.toList.getLast? ≠ some 58 := by decide
    obtain ⟨h3, h4⟩ := a2 ⟨k, hk⟩ hl
    have e : nameV k i = opm k := by unfold nameV; rw [if_neg h3]
    simp only [List.map_nil]
    unfold labelOf
    simp only
    rw [e, if_neg]
    exact fun hc => h4 hc.1
theorem jump_none {k : Nat} (hk : k < 18) {a b c i : Int} (h : chk k a b c i = 0) : jumpOf (wordsI k a b c i) = none := by
  have hn := named_name k hk i (imm_fn hk h)
  cases hj : jumpOf (wordsI k a b c i) with
  | none => rfl
  | some x =>
    exfalso
    obtain ⟨kk, q, n⟩ := x
    have hname : isName n = true := by
      unfold jumpOf at hj
      split at hj
      · split at hj
        · rename_i hc
          injection hj with hj
          injection hj with _ hj
          injection hj with _ hj
          rw [← hj]
          exact hc.2
        · cases hj
      · split at hj
        · rename_i hc
          obtain ⟨v, _, e⟩ := Option.map_eq_some_iff.1 hj
          injection e with _ e
          injection e with _ e
          rw [← e]
          exact hc.2
        · cases hj
      · cases hj
    have last : ∀ T, letters k = T ++ [110] → n = Lib.itoa i → False := fun T _ e => by
      rw [e, itoa_no_name] at hname
      cases hname
    rcases jump_parts hj with ⟨rfl, e, _⟩ | ⟨r, v, hz, _, _⟩
    · unfold wordsI at e
      injection e with e1 e2
      rw [e1, named_jump] at hn
      injection hn with hn
      injection hn with hn _
      subst hn
      have : (letters 4).map (fun l => (operB l (fldI a b c i l)).data.toList) = [Lib.itoa i] := rfl
      rw [this] at e2
      injection e2 with e2 _
      rw [← e2, itoa_no_name] at hname
      cases hname
    · rcases hz with ⟨rfl, e⟩ | ⟨rfl, e⟩
      · unfold wordsI at e
        injection e with e1 e2
        rw [e1, named_zeroS] at hn
        injection hn with hn
        injection hn with hn _
        subst hn
        have : (letters 5).map (fun l => (operB l (fldI a b c i l)).data.toList) = [114 :: Lib.itoa a, Lib.itoa i] := rfl
        rw [this] at e2
        injection e2 with _ e2
        injection e2 with e2 _
        rw [← e2, itoa_no_name] at hname
        cases hname
      · unfold wordsI at e
        injection e with e1 e2
        rw [e1, named_nonzero] at hn
        injection hn with hn
        injection hn with hn _
        subst hn
        have : (letters 6).map (fun l => (operB l (fldI a b c i l)).data.toList) = [114 :: Lib.itoa a, Lib.itoa i] := rfl
        rw [this] at e2
        injection e2 with _ e2
        injection e2 with e2 _
        rw [← e2, itoa_no_name] at hname
        cases hname
theorem kind_text {x : In} (hO : OkI x) (hc : chkI x = 0) : kindW (wordsL (textI x)) = .ins x.1 x.2 [] := by
  obtain ⟨k, hk, hk2⟩ := op_of hc
  obtain ⟨op, a, b, c, i⟩ := x
  simp only at hk2
  subst hk2
  obtain ⟨o1, o2, o3, o4, o5⟩ := hO
  unfold chkI at hc
  simp only at hc o2 o3 o4 o5
  show kindW (wordsL (bts (formatV k a b c i))) = .ins k ⟨a, b, c, i⟩ []
  rw [text_words hk hc]
  have hr := read_words hk o2 o3 o4 o5 hc
  unfold kindW
  rw [if_neg (by unfold wordsI; simp), label_none hk hc]
  simp only
  rw [jump_none hk hc]
  simp only
  rw [show readV (wordsI k a b c i) = some (k, ⟨a, b, c, i⟩) from hr, Option.bind_some]
  simp only
  rw [if_pos hc]
theorem name_nice' {n : List UInt8} (h : isName n = true) : Nice n := by
  have := isName_all h
  refine ⟨fun e => ?_, fun c hc => ?_⟩
  · rw [e] at h
    cases h
  · have h2 := (nameC_ne (this.2.2 c hc)).1
    intro e
    exact h2 (UInt8.toNat_inj.1 e)
theorem kind_label {n : List UInt8} (h : isName n = true) : kindW (wordsL (n ++ [58])) = .label n := by
  have hn := name_nice' h
  have hp : ∀ c ∈ n ++ [58], c ≠ 32 := by
    intro c hc e
    subst e
    rcases List.mem_append.1 hc with hc | hc
    · exact hn.2 _ hc rfl
    · rw [List.mem_singleton] at hc
      cases hc
  rw [wordsL_plain (by simp) hp]
  unfold kindW
  rw [if_neg (by simp)]
  have : labelOf [n ++ [58]] = some n := by
    unfold labelOf
    simp only
    rw [if_pos ⟨by simp, by rw [List.dropLast_concat]; exact h⟩, List.dropLast_concat]
  rw [this]
/-- A jump's fields. -/
theorem jump_fields {x : In} (h : isJ x = true) : (x.1 = 4 ∧ x.2 = ⟨0, 0, 0, x.2.i⟩) ∨ ((x.1 = 5 ∨ x.1 = 6) ∧ x.2 = ⟨x.2.a, 0, 0, x.2.i⟩ ∧ 0 ≤ x.2.a ∧ x.2.a < 8) := by
  obtain ⟨h0, h1⟩ := isJ_op h
  obtain ⟨op, a, b, c, i⟩ := x
  unfold chkI at h0
  simp only at h0 h1 ⊢
  rcases h1 with rfl | rfl | rfl
  · left
    have hf := fit_parts (k := 4) (by decide) h0
    obtain ⟨_, _, z1, z2, z3⟩ := hf
    have e1 : a = 0 := z1
    have e2 : b = 0 := z2
    have e3 : c = 0 := z3
    subst e1 e2 e3
    exact ⟨rfl, rfl⟩
  · right
    have hf := fit_parts (k := 5) (by decide) h0
    obtain ⟨_, hp, z1, z2, z3⟩ := hf
    have e2 : b = 0 := z2
    have e3 : c = 0 := z3
    subst e2 e3
    have := pass_reg (i := i) hp 97 (by decide) (.inl rfl) (by decide)
    exact ⟨.inl rfl, rfl, this⟩
  · right
    have hf := fit_parts (k := 6) (by decide) h0
    obtain ⟨_, hp, z1, z2, z3⟩ := hf
    have e2 : b = 0 := z2
    have e3 : c = 0 := z3
    subst e2 e3
    have := pass_reg (i := i) hp 97 (by decide) (.inl rfl) (by decide)
    exact ⟨.inr rfl, rfl, this⟩
theorem kind_jump {x : In} (hJ : isJ x = true) {n : List UInt8} (h : isName n = true) : kindW (wordsL (pre x ++ n)) = .ins x.1 { x.2 with i := 0 } n := by
  have hn := name_nice' h
  have hreg : ∀ a : Int, Nice (114 :: Lib.itoa a) := fun a => ⟨by simp, fun c hc => by
    rcases List.mem_cons.1 hc with rfl | hc
    · decide
    · exact itoa_no_space a c hc⟩
  rcases jump_fields hJ with ⟨h1, h2⟩ | ⟨h1, h2, h3, h4⟩
  · have e : pre x ++ n = flat sJump [n] := by
      unfold pre
      rw [if_pos h1]
      simp [flat]
    rw [e, wordsL_flat sJump [n] (fun y hy => by
      rcases List.mem_cons.1 hy with rfl | hy
      · exact ⟨by decide, by decide⟩
      · rw [List.mem_singleton] at hy
        rw [hy]
        exact hn)]
    unfold kindW
    rw [if_neg (by simp)]
    have l0 : labelOf [sJump, n] = none := rfl
    have j0 : jumpOf [sJump, n] = some (4, ⟨0, 0, 0, 0⟩, n) := by
      unfold jumpOf
      simp only
      rw [if_pos ⟨trivial, h⟩]
    rw [l0]
    simp only
    rw [j0]
    simp only
    rw [h1, h2]
    rfl
  · have hr := reg_itoa x.2.a h3 h4
    rcases h1 with h1 | h1
    · have e : pre x ++ n = flat sZero [114 :: Lib.itoa x.2.a, n] := by
        unfold pre
        rw [if_neg (by rw [h1]; decide), if_pos h1]
        simp [flat]
      rw [e, wordsL_flat sZero [114 :: Lib.itoa x.2.a, n] (fun y hy => by
        rcases List.mem_cons.1 hy with rfl | hy
        · exact ⟨by decide, by decide⟩
        · rcases List.mem_cons.1 hy with rfl | hy
          · exact hreg _
          · rw [List.mem_singleton] at hy
            rw [hy]
            exact hn)]
      unfold kindW
      rw [if_neg (by simp)]
      have l0 : labelOf [sZero, 114 :: Lib.itoa x.2.a, n] = none := rfl
      have j0 : jumpOf [sZero, 114 :: Lib.itoa x.2.a, n] = some (5, ⟨x.2.a, 0, 0, 0⟩, n) := by
        unfold jumpOf
        simp only
        rw [if_pos ⟨.inl trivial, h⟩, hr]
        rfl
      rw [l0]
      simp only
      rw [j0]
      simp only
      rw [h1, h2]
      rfl
    · have e : pre x ++ n = flat sNonzero [114 :: Lib.itoa x.2.a, n] := by
        unfold pre
        rw [if_neg (by rw [h1]; decide), if_neg (by rw [h1]; decide)]
        simp [flat]
      rw [e, wordsL_flat sNonzero [114 :: Lib.itoa x.2.a, n] (fun y hy => by
        rcases List.mem_cons.1 hy with rfl | hy
        · exact ⟨by decide, by decide⟩
        · rcases List.mem_cons.1 hy with rfl | hy
          · exact hreg _
          · rw [List.mem_singleton] at hy
            rw [hy]
            exact hn)]
      unfold kindW
      rw [if_neg (by simp)]
      have l0 : labelOf [sNonzero, 114 :: Lib.itoa x.2.a, n] = none := rfl
      have j0 : jumpOf [sNonzero, 114 :: Lib.itoa x.2.a, n] = some (6, ⟨x.2.a, 0, 0, 0⟩, n) := by
        unfold jumpOf
        simp only
        rw [if_pos ⟨.inr trivial, h⟩, hr]
        rfl
      rw [l0]
      simp only
      rw [j0]
      simp only
      rw [h1, h2]
      rfl
theorem pre_plain {x : In} : Plain (pre x) := by
  unfold pre
  split
  · intro c hc
    revert c
    decide
  · split
    · refine Plain.app (Plain.app (by intro c hc; revert c; decide) ?_) (by intro c hc; revert c; decide)
      intro c hc
      rcases List.mem_cons.1 hc with rfl | hc
      · decide
      · rcases List.mem_cons.1 hc with rfl | hc
        · decide
        · exact itoa_plain _ c hc
    · refine Plain.app (Plain.app (by intro c hc; revert c; decide) ?_) (by intro c hc; revert c; decide)
      intro c hc
      rcases List.mem_cons.1 hc with rfl | hc
      · decide
      · rcases List.mem_cons.1 hc with rfl | hc
        · decide
        · exact itoa_plain _ c hc
theorem nameOf_plain (p : List In) (j : Nat) : Plain (nameOf p j) := by
  intro c hc
  unfold nameOf at hc
  rcases List.mem_cons.1 hc with rfl | hc
  · decide
  · exact itoa_plain _ c hc

/-! ### The whole text. -/
/-- What the instruction at position i is read as, before its target is set. -/
def itemOf (p : List In) (i : Nat) (x : In) : Int × Fields × List UInt8 := if isJ x = true ∧ tgt i x ≤ p.length then (x.1, { x.2 with i := 0 }, nameOf p (tgt i x)) else (x.1, x.2, [])
def itsTo (p : List In) (j : Nat) : List (Int × Fields × List UInt8) := (List.range j).flatMap fun i => match p[i]? with | some x => [itemOf p i x] | none => []
def labsTo (p : List In) (j : Nat) : List (List UInt8 × Nat) := ((List.range j).filter (R p)).map fun i => (nameOf p i, i)
theorem itsTo_succ (p : List In) (j : Nat) : itsTo p (j + 1) = itsTo p j ++ (match p[j]? with | some x => [itemOf p j x] | none => []) := by
  unfold itsTo
  rw [List.range_succ, List.flatMap_append]
  simp
theorem labsTo_succ (p : List In) (j : Nat) : labsTo p (j + 1) = labsTo p j ++ (if R p j = true then [(nameOf p j, j)] else []) := by
  unfold labsTo
  rw [List.range_succ, List.filter_append, List.map_append]
  congr 1
  by_cases h : R p j = true
  · simp [h]
  · simp [h]
theorem itsTo_len (p : List In) : ∀ j, j ≤ p.length → (itsTo p j).length = j
  | 0, _ => rfl
  | j + 1, h => by
    rw [itsTo_succ, List.length_append, itsTo_len p j (by omega), List.getElem?_eq_getElem (by omega)]
    rfl
theorem itsTo_at (p : List In) : ∀ j, j ≤ p.length → ∀ i x, i < j → p[i]? = some x → (itsTo p j)[i]? = some (itemOf p i x)
  | 0, _, i, x, h, _ => by omega
  | j + 1, hj, i, x, h, hx => by
    rw [itsTo_succ]
    by_cases e : i < j
    · rw [List.getElem?_append_left (by rw [itsTo_len p j (by omega)]; exact e)]
      exact itsTo_at p j (by omega) i x e hx
    · obtain rfl : i = j := by omega
      rw [List.getElem?_append_right (by rw [itsTo_len p i (by omega)]; exact Nat.le_refl _), itsTo_len p i (by omega), Nat.sub_self, hx]
      rfl
theorem itsTo_end (p : List In) : itsTo p (p.length + 1) = itsTo p p.length := by
  rw [itsTo_succ, List.getElem?_eq_none (Nat.le_refl _), List.append_nil]
theorem find_one (f : Nat → List UInt8) (t : Nat) : ∀ l : List Nat, (∀ a ∈ l, f a = f t → a = t) → t ∈ l → ((l.map fun i => (f i, i)).find? (·.1 == f t)) = some (f t, t)
  | [], _, h => by cases h
  | a :: l, hi, ht => by
    rw [List.map_cons, List.find?_cons]
    by_cases e : f a = f t
    · obtain rfl := hi a (by simp) e
      simp
    · have : (f a == f t) = false := by simp [e]
      simp only [this]
      refine find_one f t l (fun x hx => hi x (by simp [hx])) ?_
      rcases List.mem_cons.1 ht with rfl | ht
      · exact absurd rfl e
      · exact ht
theorem look_none {p : List In} {j : Nat} (hj : j ≤ 65) (hR : R p j = true) : lookN (labsTo p j) (nameOf p j) = none := by
  unfold lookN
  rw [Option.map_eq_none_iff, List.find?_eq_none]
  intro y hy
  unfold labsTo at hy
  obtain ⟨i, hi, rfl⟩ := List.mem_map.1 hy
  obtain ⟨hi1, hi2⟩ := List.mem_filter.1 hi
  have hij := List.mem_range.1 hi1
  simp only [beq_iff_eq]
  intro e
  have := name_apart (by omega) hj hi2 hR e
  omega
theorem look_some {p : List In} {t n : Nat} (hn : n ≤ 65) (ht : t < n) (hR : R p t = true) : lookN (labsTo p n) (nameOf p t) = some t := by
  unfold lookN labsTo
  rw [find_one (nameOf p) t]
  · rfl
  · intro a ha e
    obtain ⟨h1, h2⟩ := List.mem_filter.1 ha
    have := List.mem_range.1 h1
    exact name_apart (by omega) (by omega) h2 hR e
  · exact List.mem_filter.2 ⟨List.mem_range.2 ht, hR⟩
/-- The kinds of the lines at position j. -/
theorem kinds_at {p : List In} (hl : p.length ≤ 64) (hO : ∀ x ∈ p, OkI x) (hc : ∀ x ∈ p, chkI x = 0) {j : Nat} (hj : j ≤ p.length) :
    foldK ((labelLines p j ++ insLines p j).map fun s => kindW (wordsL s)) ⟨itsTo p j, labsTo p j⟩ = some ⟨itsTo p (j + 1), labsTo p (j + 1)⟩ := by
  rw [List.map_append, foldK_append, itsTo_succ, labsTo_succ]
  have h1 : foldK ((labelLines p j).map fun s => kindW (wordsL s)) ⟨itsTo p j, labsTo p j⟩ = some ⟨itsTo p j, labsTo p j ++ (if R p j = true then [(nameOf p j, j)] else [])⟩ := by
    unfold labelLines
    by_cases hR : R p j = true
    · rw [if_pos hR, if_pos hR, List.map_cons, List.map_nil, kind_label (nameOf_ok p j (by omega)), foldK]
      unfold stepK
      simp only
      rw [look_none (by omega) hR, itsTo_len p j hj]
      rfl
    · rw [if_neg hR, if_neg hR, List.append_nil]
      rfl
  rw [h1, Option.bind_some]
  unfold insLines
  cases hx : p[j]? with
  | none =>
    simp only [List.map_nil, List.append_nil]
    rfl
  | some x =>
    have hm := List.mem_of_getElem? hx
    have hjl := (List.getElem?_eq_some_iff.1 hx).1
    simp only [List.map_cons, List.map_nil]
    have hk : kindW (wordsL (lineOf p j x)) = .ins (itemOf p j x).1 (itemOf p j x).2.1 (itemOf p j x).2.2 := by
      unfold lineOf itemOf
      by_cases hJ : isJ x = true ∧ tgt j x ≤ p.length
      · rw [if_pos hJ, if_pos hJ, kind_jump hJ.1 (nameOf_ok p _ (by omega))]
      · rw [if_neg hJ, if_neg hJ, kind_text (hO x hm) (hc x hm)]
    rw [hk, foldK]
    unfold stepK
    simp only
    rw [itsTo_len p j hj, if_neg (by omega)]
    rfl
theorem kinds_to {p : List In} (hl : p.length ≤ 64) (hO : ∀ x ∈ p, OkI x) (hc : ∀ x ∈ p, chkI x = 0) : ∀ j, j ≤ p.length + 1 → foldK ((linesTo p j).map fun s => kindW (wordsL s)) ⟨[], []⟩ = some ⟨itsTo p j, labsTo p j⟩
  | 0, _ => rfl
  | j + 1, h => by
    rw [linesTo_succ, List.map_append, foldK_append, kinds_to hl hO hc j (by omega), Option.bind_some]
    exact kinds_at hl hO hc (by omega)
/-- Each line is short, without line feeds and comments. -/
theorem line_facts {p : List In} (hl : p.length ≤ 64) (hO : ∀ x ∈ p, OkI x) (hc : ∀ x ∈ p, chkI x = 0) : ∀ j, j ≤ p.length + 1 → ∀ l ∈ linesTo p j, Plain l ∧ l.length ≤ 115
  | 0, _, l, h => by cases h
  | j + 1, hj, l, h => by
    rw [linesTo_succ] at h
    rcases List.mem_append.1 h with h | h
    · exact line_facts hl hO hc j (by omega) l h
    · rcases List.mem_append.1 h with h | h
      · unfold labelLines at h
        split at h
        · rw [List.mem_singleton] at h
          subst h
          have := nameOf_len p j (by omega)
          exact ⟨(nameOf_plain p j).app (by intro c hc; revert c; decide), by rw [List.length_append]; simp; omega⟩
        · cases h
      · unfold insLines at h
        split at h
        · rename_i x hx
          rw [List.mem_singleton] at h
          subst h
          have hm := List.mem_of_getElem? hx
          have := line_len (j := j) (hO x hm) (hc x hm) hl
          refine ⟨?_, by omega⟩
          unfold lineOf
          split
          · exact pre_plain.app (nameOf_plain p _)
          · obtain ⟨k, hk, hk2⟩ := op_of (hc x hm)
            have h0 := hc x hm
            obtain ⟨op, a, b, c, i⟩ := x
            simp only at hk2
            subst hk2
            exact text_plain hk h0
        · cases h
/-- What the lines read as, with targets set. -/
theorem targets_ok {p : List In} (hl : p.length ≤ 64) (hc : ∀ x ∈ p, chkI x = 0) {st : St} (h : strip st = ⟨itsTo p (p.length + 1), labsTo p (p.length + 1)⟩) : setTargets st.labels 0 st.items = .ok p := by
  have hits : (strip st).its = itsTo p p.length := by rw [h, ← itsTo_end]
  have hlabs : st.labels = labsTo p (p.length + 1) := by
    have : (strip st).labels = labsTo p (p.length + 1) := by rw [h]
    exact this
  refine setTargets_strip _ st p ?_ ?_
  · have : (strip st).its.length = p.length := by rw [hits, itsTo_len p _ (Nat.le_refl _)]
    simpa [strip] using this
  · intro j y hy k q t hk
    have hjl := (List.getElem?_eq_some_iff.1 hy).1
    rw [hits, itsTo_at p p.length (Nat.le_refl _) j y hjl hy] at hk
    injection hk with hk
    unfold itemOf at hk
    by_cases hJ : isJ y = true ∧ tgt j y ≤ p.length
    · rw [if_pos hJ] at hk
      injection hk with e1 e2
      injection e2 with e2 e3
      subst e1 e2 e3
      right
      refine ⟨by unfold nameOf; simp, tgt j y, ?_, ?_, ?_⟩
      · rw [hlabs]
        exact look_some (by omega) (by omega) (R_of hy hJ.1 hJ.2)
      · unfold tgt
        omega
      · have := (isJ_imm hJ.1).1
        have e : ((tgt j y : Nat) : Int) - j - 1 = y.2.i := by
          unfold tgt
          omega
        rw [e]
    · rw [if_neg hJ] at hk
      injection hk with e1 e2
      injection e2 with e2 e3
      subst e1 e2 e3
      exact .inl ⟨rfl, rfl⟩
/-- Lines that are, but for empty ones, read as the program's. -/
theorem read_lines {p : List In} (hl : p.length ≤ 64) (hO : ∀ x ∈ p, OkI x) (hc : ∀ x ∈ p, chkI x = 0) (ls : List (List UInt8))
    (hk : ((ls.map fun s => kind (mk (bareL s))).filter fun K => !isEm K) = ((linesTo p (p.length + 1)).map fun s => kindW (wordsL s)).filter fun K => !isEm K) :
    ∃ st, readAll ls 1 ⟨[], []⟩ = .ok st ∧ setTargets st.labels 0 st.items = .ok p := by
  have hf : foldK (ls.map fun s => kind (mk (bareL s))) ⟨[], []⟩ = some ⟨itsTo p (p.length + 1), labsTo p (p.length + 1)⟩ := by
    rw [← foldK_filter, hk, foldK_filter]
    exact kinds_to hl hO hc _ (Nat.le_refl _)
  obtain ⟨st, h1, h2⟩ := readAll_fold ls 1 ⟨[], []⟩ _ hf
  exact ⟨st, h1, targets_ok hl hc h2⟩
theorem kind_line {l : List UInt8} (h : Plain l) (hl : l.length ≤ 200) : kind (mk (bareL l)) = kindW (wordsL l) := by
  rw [bare_plain h, kind_words l hl]
/-- **A program is recovered from its text.** -/
theorem round {p : List In} (hl : p.length ≤ 64) (hO : ∀ x ∈ p, OkI x) (hc : ∀ x ∈ p, chkI x = 0) : asmV (disV p) = .ok p := by
  have hlen := lines_len hO hc hl (p.length + 1) (by omega)
  have hlf := line_facts hl hO hc (p.length + 1) (Nat.le_refl _)
  unfold asmV disV
  rw [if_neg (by omega), pieces_lfs _ fun l hm c hcc => ((hlf l hm).1 c hcc).1]
  obtain ⟨st, h1, h2⟩ := read_lines hl hO hc (linesTo p (p.length + 1) ++ [[]]) (by
    rw [List.map_append, List.filter_append]
    have e : (([[]] : List (List UInt8)).map fun s => kind (mk (bareL s))).filter (fun K => !isEm K) = [] := by
      rw [List.map_cons, List.map_nil, kind_nil]
      rfl
    rw [e, List.append_nil]
    congr 1
    refine List.map_congr_left fun l hm => ?_
    exact kind_line (hlf l hm).1 (by have := (hlf l hm).2; omega))
  rw [h1]
  exact h2
/-! ### With comments. -/
def tail1 : List UInt8 := [32, 32, 35, 32, 110, 111, 112, 58, 32, 55]
/-- What a line becomes. -/
def one (t i : Nat) (l : List UInt8) : List (List UInt8) := ([32] ++ l ++ tail1) :: (if t = i % 3 then [[32, 32, 32], [35]] else [])
/-- The lines of the text with comments, up to line k. -/
def outL (t : Nat) (ls : List (List UInt8)) (k : Nat) : List (List UInt8) := [35, 32, 104, 101, 97, 100] :: (List.range k).flatMap fun i => one t i (ls.getD i [])
theorem outL_succ (t : Nat) (ls : List (List UInt8)) (k : Nat) : outL t ls (k + 1) = outL t ls k ++ one t k (ls.getD k []) := by
  unfold outL
  rw [List.range_succ, List.flatMap_append]
  simp
theorem kind_sp : kind (mk (bareL [32, 32, 32])) = .empty := by
  rw [show bareL [32, 32, 32] = [32, 32, 32] from rfl]
  unfold kind
  rw [if_pos (by decide +kernel)]
theorem kind_hash (r : List UInt8) : kind (mk (bareL (35 :: r))) = .empty := by
  have : bareL (35 :: r) = [] := by unfold bareL; rw [List.takeWhile_cons, if_neg (by decide)]
  have h2 := kind_nil
  rw [bare_nil] at h2
  rw [this, h2]
theorem kinds_one {t i : Nat} {l : List UInt8} (hp : Plain l) (hl : l.length ≤ 115) : ((one t i l).map fun s => kind (mk (bareL s))).filter (fun K => !isEm K) = [kindW (wordsL l)].filter (fun K => !isEm K) := by
  have hb : bareL ([32] ++ l ++ tail1) = [32] ++ l ++ [32, 32] := by
    have e : [32] ++ l ++ tail1 = ([32] ++ l ++ [32, 32]) ++ 35 :: [32, 110, 111, 112, 58, 32, 55] := by simp [tail1]
    rw [e]
    unfold bareL
    refine takeWhile_ne fun c hc => ?_
    rcases List.mem_append.1 hc with hc | hc
    · rcases List.mem_append.1 hc with hc | hc
      · rw [List.mem_singleton] at hc
        subst hc
        decide
      · exact (hp c hc).2
    · have h35 : ∀ c ∈ ([32, 32] : List UInt8), c ≠ 35 := by decide
      exact h35 c hc
  have hk : kind (mk (bareL ([32] ++ l ++ tail1))) = kindW (wordsL l) := by
    rw [hb, kind_spaces [32] l [32, 32] (by intro c hc; revert c; decide) (by intro c hc; revert c; decide) (by simp; omega), kind_words l (by omega)]
  unfold one
  rw [List.map_cons, hk]
  by_cases h : t = i % 3
  · rw [if_pos h, List.map_cons, List.map_cons, List.map_nil, kind_sp, kind_hash]
    rw [List.filter_cons, List.filter_cons (x := kindW (wordsL l))]
    rfl
  · rw [if_neg h, List.map_nil]
theorem kinds_out {t : Nat} {ls : List (List UInt8)} (hf : ∀ l ∈ ls, Plain l ∧ l.length ≤ 115) : ∀ k, k ≤ ls.length → ((outL t ls k).map fun s => kind (mk (bareL s))).filter (fun K => !isEm K) = ((ls.take k).map fun s => kindW (wordsL s)).filter (fun K => !isEm K)
  | 0, _ => by
    show (([[35, 32, 104, 101, 97, 100]] : List (List UInt8)).map fun s => kind (mk (bareL s))).filter (fun K => !isEm K) = _
    rw [List.map_cons, List.map_nil, kind_hash]
    rfl
  | k + 1, h => by
    have hk : k < ls.length := by omega
    have hg : ls.getD k [] = ls[k] := by rw [List.getD_eq_getElem?_getD, List.getElem?_eq_getElem hk]; rfl
    obtain ⟨h1, h2⟩ := hf ls[k] (List.getElem_mem hk)
    rw [outL_succ, List.map_append, List.filter_append, kinds_out hf k (by omega), hg, kinds_one h1 h2, List.take_succ_eq_append_getElem hk, List.map_append, List.filter_append]
    rfl
theorem one_len {t i : Nat} {l : List UInt8} (hl : l.length ≤ 115) : (lfs (one t i l)).length ≤ 140 := by
  unfold one lfs tail1
  split <;> simp <;> omega
theorem out_len {t : Nat} {ls : List (List UInt8)} (hf : ∀ l ∈ ls, Plain l ∧ l.length ≤ 115) : ∀ k, k ≤ ls.length → (lfs (outL t ls k)).length ≤ 7 + 140 * k
  | 0, _ => by
    show (lfs [[35, 32, 104, 101, 97, 100]]).length ≤ 7 + 140 * 0
    decide
  | k + 1, h => by
    have hk : k < ls.length := by omega
    have hg : ls.getD k [] = ls[k] := by rw [List.getD_eq_getElem?_getD, List.getElem?_eq_getElem hk]; rfl
    have h1 := out_len hf k (by omega) (t := t)
    have h2 := one_len (t := t) (i := k) (hf ls[k] (List.getElem_mem hk)).2
    rw [outL_succ, lfs_append, List.length_append, hg]
    omega
theorem out_no_lf {t : Nat} {ls : List (List UInt8)} (hf : ∀ l ∈ ls, Plain l ∧ l.length ≤ 115) : ∀ k, k ≤ ls.length → ∀ l ∈ outL t ls k, ∀ c ∈ l, c ≠ 10
  | 0, _, l, hl, c, hc => by
    have : l = [35, 32, 104, 101, 97, 100] := by simpa [outL] using hl
    subst this
    revert c
    decide
  | k + 1, h, l, hl, c, hc => by
    have hk : k < ls.length := by omega
    have hg : ls.getD k [] = ls[k] := by rw [List.getD_eq_getElem?_getD, List.getElem?_eq_getElem hk]; rfl
    rw [outL_succ, hg] at hl
    rcases List.mem_append.1 hl with hl | hl
    · exact out_no_lf hf k (by omega) l hl c hc
    · unfold one at hl
      rcases List.mem_cons.1 hl with rfl | hl
      · rcases List.mem_append.1 hc with hc | hc
        · rcases List.mem_append.1 hc with hc | hc
          · have h1 : ∀ c ∈ ([32] : List UInt8), c ≠ 10 := by decide
            exact h1 c hc
          · exact ((hf ls[k] (List.getElem_mem hk)).1 c hc).1
        · have h1 : ∀ c ∈ tail1, c ≠ 10 := by decide
          exact h1 c hc
      · split at hl
        · rcases List.mem_cons.1 hl with rfl | hl
          · have h1 : ∀ c ∈ ([32, 32, 32] : List UInt8), c ≠ 10 := by decide
            exact h1 c hc
          · rw [List.mem_singleton] at hl
            subst hl
            have h1 : ∀ c ∈ ([35] : List UInt8), c ≠ 10 := by decide
            exact h1 c hc
        · cases hl
theorem linesTo_len (p : List In) : ∀ j, (linesTo p j).length ≤ 2 * j
  | 0 => by simp [linesTo]
  | j + 1 => by
    have h := linesTo_len p j
    have h1 : (labelLines p j).length ≤ 1 := by unfold labelLines; split <;> simp
    have h2 : (insLines p j).length ≤ 1 := by unfold insLines; split <;> simp
    rw [linesTo_succ, List.length_append, List.length_append]
    omega
/-- **Comments, empty lines and spaces change nothing.** -/
theorem comments {p : List In} (hl : p.length ≤ 64) (hO : ∀ x ∈ p, OkI x) (hc : ∀ x ∈ p, chkI x = 0) (t : Nat) : asmV (lfs (outL t (linesTo p (p.length + 1)) (linesTo p (p.length + 1)).length)) = .ok p := by
  have hlf := line_facts hl hO hc (p.length + 1) (Nat.le_refl _)
  have hln := linesTo_len p (p.length + 1)
  have hlen := out_len hlf _ (Nat.le_refl _) (t := t)
  unfold asmV
  rw [if_neg (by omega), pieces_lfs _ (out_no_lf hlf _ (Nat.le_refl _))]
  obtain ⟨st, h1, h2⟩ := read_lines hl hO hc (outL t (linesTo p (p.length + 1)) (linesTo p (p.length + 1)).length ++ [[]]) (by
    rw [List.map_append, List.filter_append]
    have e : (([[]] : List (List UInt8)).map fun s => kind (mk (bareL s))).filter (fun K => !isEm K) = [] := by
      rw [List.map_cons, List.map_nil, kind_nil]
      rfl
    rw [e, List.append_nil, kinds_out hlf _ (Nat.le_refl _), List.take_length])
  rw [h1]
  exact h2
end Go.Proofs.YtcplhochgngedaaGreatDoor.AsmV
