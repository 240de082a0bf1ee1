/-
  Layer 4 (asm), plain mathematics, no program: the text of a program, and that it is read as this program, also with comments.
-/
import Derived.Test.YtcplhochgngedaaGreatDoorAsmS
namespace Go.Proofs.YtcplhochgngedaaGreatDoor.AsmT
open IsaE IsaS IsaA IsaB IsaF IsaP IsaQ IsaX IsaR AsmS
set_option linter.unusedVariables false

abbrev In := Int × Fields
def chkI (x : In) : Int := chk x.1 x.2.a x.2.b x.2.c x.2.i
def isJ (x : In) : Bool := skipsB x.1 x.2.a x.2.b x.2.c x.2.i
/-- The position a jumps to j. -/
def hits (p : List In) (a j : Nat) : Bool := match p[a]? with | some x => isJ x && decide ((a : Int) + 1 + x.2.i = j) | none => false
/-- One of the first k instructions jumps to j, which is within the program or its end. -/
def mark (p : List In) (k j : Nat) : Bool := decide (j ≤ p.length) && (List.range k).any fun a => hits p a j
theorem mark_zero (p : List In) (j : Nat) : mark p 0 j = false := by simp [mark]
theorem mark_succ (p : List In) (k j : Nat) : mark p (k + 1) j = (mark p k j || (decide (j ≤ p.length) && hits p k j)) := by
  unfold mark
  rw [List.range_succ, List.any_append]
  simp only [List.any_cons, List.any_nil, Bool.or_false]
  cases decide (j ≤ p.length) <;> simp
def R (p : List In) (j : Nat) : Bool := mark p p.length j
/-- How many positions below j are reached. -/
def cnt (p : List In) (j : Nat) : Nat := ((List.range j).filter (R p)).length
theorem cnt_zero (p : List In) : cnt p 0 = 0 := rfl
theorem cnt_succ (p : List In) (j : Nat) : cnt p (j + 1) = if R p j = true then cnt p j + 1 else cnt p j := by
  unfold cnt
  rw [List.range_succ, List.filter_append]
  by_cases h : R p j = true
  · rw [if_pos h]; simp [h]
  · rw [if_neg h]; simp [h]
theorem cnt_le (p : List In) (j : Nat) : cnt p j ≤ j := by
  unfold cnt
  have := List.length_filter_le (R p) (List.range j)
  rw [List.length_range] at this
  exact this
theorem cnt_mono (p : List In) : ∀ {i j : Nat}, i ≤ j → cnt p i ≤ cnt p j := by
  intro i j h
  induction j with
  | zero => rw [Nat.le_zero.1 h]; exact Nat.le_refl _
  | succ j ih =>
    by_cases e : i = j + 1
    · rw [e]; exact Nat.le_refl _
    · have := ih (by omega)
      rw [cnt_succ]
      split <;> omega
/-- The label's name at j. -/
def nameOf (p : List In) (j : Nat) : List UInt8 := 108 :: Lib.itoa ((cnt p j + 1 : Nat) : Int)
/-- A jump's text up to its number. -/
def pre (x : In) : List UInt8 := if x.1 = 4 then sJump ++ [32] else if x.1 = 5 then sZero ++ 32 :: 114 :: Lib.itoa x.2.a ++ [32] else sNonzero ++ 32 :: 114 :: Lib.itoa x.2.a ++ [32]
def textI (x : In) : List UInt8 := bts (formatV x.1 x.2.a x.2.b x.2.c x.2.i)
/-- The target of the jump at j. -/
def tgt (j : Nat) (x : In) : Nat := j + 1 + x.2.i.toNat
def lineOf (p : List In) (j : Nat) (x : In) : List UInt8 := if isJ x = true ∧ tgt j x ≤ p.length then pre x ++ nameOf p (tgt j x) else textI x
def labelLines (p : List In) (j : Nat) : List (List UInt8) := if R p j = true then [nameOf p j ++ [58]] else []
def insLines (p : List In) (j : Nat) : List (List UInt8) := match p[j]? with | some x => [lineOf p j x] | none => []
/-- The lines up to position j. -/
def linesTo (p : List In) (j : Nat) : List (List UInt8) := (List.range j).flatMap fun i => labelLines p i ++ insLines p i
def lfs (ls : List (List UInt8)) : List UInt8 := ls.flatMap fun l => l ++ [10]
def disV (p : List In) : List UInt8 := lfs (linesTo p (p.length + 1))
theorem linesTo_succ (p : List In) (j : Nat) : linesTo p (j + 1) = linesTo p j ++ (labelLines p j ++ insLines p j) := by
  unfold linesTo
  rw [List.range_succ, List.flatMap_append]
  simp
theorem lfs_append (a b : List (List UInt8)) : lfs (a ++ b) = lfs a ++ lfs b := List.flatMap_append
theorem lfs_one (a : List UInt8) : lfs [a] = a ++ [10] := by simp [lfs]
theorem lfs_nil : lfs [] = [] := rfl

/-! ### Its lines. -/
theorem pieces_lfs : ∀ (ls : List (List UInt8)), (∀ l ∈ ls, ∀ c ∈ l, c ≠ 10) → pieces (lfs ls) = ls ++ [[]]
  | [], _ => rfl
  | l :: ls, h => by
    have e : lfs (l :: ls) = l ++ 10 :: lfs ls := by simp [lfs]
    rw [e]
    unfold pieces
    rw [cutFrom_lf l [] _ (h l (by simp)), List.nil_append]
    have := pieces_lfs ls (fun x hx => h x (by simp [hx]))
    unfold pieces at this
    rw [this]; rfl
theorem trim_lfs (ls : List (List UInt8)) (h : ∀ l ∈ ls, ∀ c ∈ l, c ≠ 10) : trimLast (pieces (lfs ls)) = ls := by
  rw [pieces_lfs ls h]
  unfold trimLast
  rw [if_pos (by simp), List.dropLast_concat]

/-! ### What a line is, by its words. -/
def kindW (ws : List (List UInt8)) : Kind :=
  if ws = [] then .empty else
  match labelOf ws with
  | some n => .label n
  | none =>
    match jumpOf ws with
    | some (k, q, n) => .ins k q n
    | none =>
      match (readV ws).bind fun x => if chk x.1 x.2.a x.2.b x.2.c x.2.i = 0 then some x else none with
      | some (k, q) => .ins k q []
      | none => .bad (match readV ws with | none => 4 | some x => chk x.1 x.2.a x.2.b x.2.c x.2.i)
theorem kind_words (l : List UInt8) (hl : l.length ≤ 200) : kind (mk l) = kindW (wordsL l) := by
  have hs : (mk l).size ≤ 200 := by rw [← bytes_len, bts_mk]; exact hl
  have hw : (words (mk l)).map bts = wordsL l := by rw [words_list, bts_mk]
  unfold kind kindW parseQ parseE
  rw [if_neg (show ¬ 200 < (mk l).size by omega), if_neg (show ¬ 200 < (mk l).size by omega), hw]
  have he : words (mk l) = [] ↔ wordsL l = [] := by rw [words_nil_iff, bts_mk]
  by_cases h : wordsL l = []
  · rw [if_pos h, if_pos (he.2 h)]
  · rw [if_neg h, if_neg (fun x => h (he.1 x))]
    rfl
/-- Spaces around a line. -/
theorem kind_spaces (a l b : List UInt8) (ha : Sp a) (hb : Sp b) (hl : (a ++ l ++ b).length ≤ 200) : kind (mk (a ++ l ++ b)) = kind (mk l) := by
  rw [kind_words _ hl, kind_words l (by simp at hl; omega)]
  congr 1
  rw [List.append_assoc, wordsL_left _ _ ha]
  unfold wordsL
  rw [wordsFrom_right _ _ _ hb]

/-! ### Assembling by what the lines are. -/
structure Ab where
  its : List (Int × Fields × List UInt8)
  labels : List (List UInt8 × Nat)
def stepK (a : Ab) (K : Kind) : Option Ab :=
  match K with
  | .empty => some a
  | .label x => if (lookN a.labels x).isSome then none else some { a with labels := a.labels ++ [(x, a.its.length)] }
  | .ins k q t => if a.its.length = 64 then none else some { a with its := a.its ++ [(k, q, t)] }
  | .bad _ => none
def foldK : List Kind → Ab → Option Ab
  | [], a => some a
  | K :: r, a => (stepK a K).bind (foldK r)
theorem foldK_append : ∀ (r s : List Kind) (a : Ab), foldK (r ++ s) a = (foldK r a).bind (foldK s)
  | [], s, a => rfl
  | K :: r, s, a => by
    rw [List.cons_append, foldK, foldK]
    cases stepK a K with
    | none => rfl
    | some b => exact foldK_append r s b
def strip (st : St) : Ab := ⟨st.items.map fun x => (x.k, x.q, x.t), st.labels⟩
theorem step_strip {st : St} {n : Nat} {s : List UInt8} {b : Ab} (h : stepK (strip st) (kind (mk (bareL s))) = some b) : ∃ st', stepL st n s = .ok st' ∧ strip st' = b := by
  unfold stepL
  cases hk : kind (mk (bareL s)) with
  | empty =>
    rw [hk] at h
    injection h with h
    exact ⟨st, rfl, h⟩
  | label x =>
    rw [hk] at h
    unfold stepK at h
    simp only at h ⊢
    have e1 : (strip st).labels = st.labels := rfl
    have e2 : (strip st).its.length = st.items.length := by simp [strip]
    rw [e1, e2] at h
    by_cases hl : (lookN st.labels x).isSome = true
    · rw [if_pos hl] at h; cases h
    · rw [if_neg hl] at h ⊢
      injection h with h
      exact ⟨_, rfl, h⟩
  | ins k q t =>
    rw [hk] at h
    unfold stepK at h
    simp only at h ⊢
    have e2 : (strip st).its.length = st.items.length := by simp [strip]
    rw [e2] at h
    by_cases hl : st.items.length = 64
    · rw [if_pos hl] at h; cases h
    · rw [if_neg hl] at h ⊢
      injection h with h
      refine ⟨_, rfl, ?_⟩
      rw [← h]
      simp [strip]
  | bad e => rw [hk] at h; cases h
theorem readAll_fold : ∀ (ls : List (List UInt8)) (n : Nat) (st : St) (b : Ab), foldK (ls.map fun s => kind (mk (bareL s))) (strip st) = some b → ∃ st', readAll ls n st = .ok st' ∧ strip st' = b
  | [], n, st, b, h => by
    injection h with h
    exact ⟨st, rfl, h⟩
  | s :: ls, n, st, b, h => by
    rw [List.map_cons, foldK] at h
    cases hs : stepK (strip st) (kind (mk (bareL s))) with
    | none => rw [hs] at h; cases h
    | some a =>
      rw [hs, Option.bind_some] at h
      obtain ⟨st1, h1, h2⟩ := step_strip (n := n) hs
      rw [← h2] at h
      obtain ⟨st2, h3, h4⟩ := readAll_fold ls (n + 1) st1 b h
      refine ⟨st2, ?_, h4⟩
      rw [readAll, h1]
      exact h3
def isEm : Kind → Bool
  | .empty => true
  | _ => false
theorem foldK_filter : ∀ (Ks : List Kind) (a : Ab), foldK (Ks.filter fun K => !isEm K) a = foldK Ks a
  | [], _ => rfl
  | .empty :: r, a => by
    rw [List.filter_cons, if_neg (by simp [isEm]), foldK_filter r a]
    rfl
  | .label x :: r, a => by
    rw [List.filter_cons, if_pos (by simp [isEm]), foldK, foldK]
    cases stepK a (.label x) with
    | none => rfl
    | some b => exact foldK_filter r b
  | .ins k q t :: r, a => by
    rw [List.filter_cons, if_pos (by simp [isEm]), foldK, foldK]
    cases stepK a (.ins k q t) with
    | none => rfl
    | some b => exact foldK_filter r b
  | .bad e :: r, a => rfl

/-! ### Targets. -/
/-- The distances that are wanted are those that are set. -/
theorem set_ok (L : List (List UInt8 × Nat)) : ∀ (items : List AItem) (at_ : Nat) (ps : List In), items.length = ps.length →
    (∀ (j : Nat) (x : AItem) (y : In), items[j]? = some x → ps[j]? = some y → (x.t = [] ∧ (x.k, x.q) = y) ∨ (x.t ≠ [] ∧ ∃ p, lookN L x.t = some p ∧ at_ + j < p ∧ (x.k, { x.q with i := (p : Int) - (at_ + j : Nat) - 1 }) = y)) → setTargets L at_ items = .ok ps
  | [], at_, ps, hl, _ => by
    have : ps = [] := List.eq_nil_of_length_eq_zero hl.symm
    subst this
    rfl
  | x :: items, at_, [], hl, _ => by cases hl
  | x :: items, at_, y :: ps, hl, h => by
    have ih := set_ok L items (at_ + 1) ps (by simpa using hl) (fun j a b ha hb => by
      have := h (j + 1) a b (by simpa using ha) (by simpa using hb)
      rw [show at_ + (j + 1) = at_ + 1 + j by omega] at this
      exact this)
    unfold setTargets
    rw [ih]
    rcases h 0 x y rfl rfl with ⟨h0, h1⟩ | ⟨h0, p, h1, h2, h3⟩
    · rw [if_pos h0]
      simp only
      rw [h1]
    · rw [if_neg h0, h1]
      simp only
      rw [if_neg (by omega)]
      rw [Nat.add_zero] at h3
      rw [h3]
theorem setTargets_strip (L : List (List UInt8 × Nat)) (st : St) (p : List In) (h : st.items.length = p.length)
    (h2 : ∀ (j : Nat) (y : In), p[j]? = some y → ∀ k q t, (strip st).its[j]? = some (k, q, t) → (t = [] ∧ (k, q) = y) ∨ (t ≠ [] ∧ ∃ pos, lookN L t = some pos ∧ j < pos ∧ (k, { q with i := (pos : Int) - j - 1 }) = y)) :
    setTargets L 0 st.items = .ok p := by
  refine set_ok L st.items 0 p h (fun j x y hx hy => ?_)
  have := h2 j y hy x.k x.q x.t (by simp [strip, List.getElem?_map, hx])
  rw [Nat.zero_add]
  exact this
end Go.Proofs.YtcplhochgngedaaGreatDoor.AsmT
