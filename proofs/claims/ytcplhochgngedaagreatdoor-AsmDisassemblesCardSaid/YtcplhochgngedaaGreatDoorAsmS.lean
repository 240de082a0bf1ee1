/-
  Layer 4 (asm), plain mathematics, no program: lines of a text, what a line is, assembling.
-/
import Derived.Test.YtcplhochgngedaaGreatDoorIsaR
import Derived.Lib.Split
import Derived.Lib.TrimByte
namespace Go.Proofs.YtcplhochgngedaaGreatDoor.AsmS
open IsaE IsaS IsaA IsaB IsaF IsaP IsaQ IsaX IsaR
set_option linter.unusedVariables false

/-! ### Lines. -/
/-- The lines of the rest of a text, cur what has been read of the line that is open. -/
def cutFrom : List UInt8 → List UInt8 → List (List UInt8)
  | cur, [] => [cur]
  | cur, c :: r => if c = 10 then cur :: cutFrom [] r else cutFrom (cur ++ [c]) r
theorem cutFrom_ne : ∀ (r cur : List UInt8), cutFrom cur r ≠ []
  | [], cur => by simp [cutFrom]
  | c :: r, cur => by
    unfold cutFrom
    split
    · simp
    · exact cutFrom_ne r _
theorem cutFrom_plain : ∀ (r cur : List UInt8), (∀ c ∈ r, c ≠ 10) → cutFrom cur r = [cur ++ r]
  | [], cur, _ => by simp [cutFrom]
  | c :: r, cur, h => by
    unfold cutFrom
    rw [if_neg (h c (by simp)), cutFrom_plain r _ (fun x hx => h x (by simp [hx]))]
    simp
theorem cutFrom_lf : ∀ (a cur r : List UInt8), (∀ c ∈ a, c ≠ 10) → cutFrom cur (a ++ 10 :: r) = (cur ++ a) :: cutFrom [] r
  | [], cur, r, _ => by
    rw [List.nil_append, cutFrom, if_pos rfl, List.append_nil]
  | c :: a, cur, r, h => by
    rw [List.cons_append, cutFrom, if_neg (h c (by simp)), cutFrom_lf a _ r (fun x hx => h x (by simp [hx]))]
    simp
/-- All pieces between line feeds. -/
def pieces (l : List UInt8) : List (List UInt8) := cutFrom [] l
/-- Without the last one, if it is empty. -/
def trimLast (ps : List (List UInt8)) : List (List UInt8) := if ps.getLast? = some [] then ps.dropLast else ps

/-! ### Split. -/
theorem index_lf (l : List UInt8) : (Lib.index l [10] = -1 ∧ ∀ c ∈ l, c ≠ 10) ∨ ∃ a r, l = a ++ 10 :: r ∧ (∀ c ∈ a, c ≠ 10) ∧ Lib.index l [10] = (a.length : Int) := by
  induction l with
  | nil => left; exact ⟨rfl, by simp⟩
  | cons b l ih =>
    by_cases hb : b = 10
    · subst hb
      right
      refine ⟨[], l, rfl, by simp, ?_⟩
      unfold Lib.index
      simp
    · have hp : ([10] : List UInt8).isPrefixOf (b :: l) = false := by
        simp [List.isPrefixOf, Ne.symm hb]
      rcases ih with ⟨h1, h2⟩ | ⟨a, r, rfl, h2, h3⟩
      · left
        refine ⟨?_, ?_⟩
        · unfold Lib.index
          rw [hp, h1]; rfl
        · intro c hc
          rcases List.mem_cons.1 hc with rfl | hc
          · exact hb
          · exact h2 c hc
      · right
        refine ⟨b :: a, r, rfl, ?_, ?_⟩
        · intro c hc
          rcases List.mem_cons.1 hc with rfl | hc
          · exact hb
          · exact h2 c hc
        · unfold Lib.index
          rw [hp, h3]
          have : ((a.length : Int) == -1) = false := by rw [beq_eq_false_iff_ne]; omega
          rw [this]
          simp
theorem count_lf : ∀ (f : Nat) (l : List UInt8), l.length < f → Lib.countFrom [10] f l + 1 = (pieces l).length
  | 0, l, h => by omega
  | f + 1, l, h => by
    unfold Lib.countFrom pieces
    rcases index_lf l with ⟨h1, h2⟩ | ⟨a, r, rfl, h2, h3⟩
    · rw [h1, cutFrom_plain _ _ h2]; rfl
    · rw [h3]
      have : ((a.length : Int) == -1) = false := by rw [beq_eq_false_iff_ne]; omega
      rw [this, cutFrom_lf _ _ _ h2]
      have e : (a ++ 10 :: r).drop ((a.length : Int).toNat + [(10 : UInt8)].length) = r := by
        rw [Int.toNat_natCast]
        rw [List.length_singleton, ← List.drop_drop, List.drop_left]
        rfl
      rw [e]
      have := count_lf f r (by simp at h; omega)
      unfold pieces at this
      simp
      omega
theorem split_lf : ∀ (f : Nat) (l : List UInt8), (pieces l).length ≤ f + 1 → Lib.splitK [10] 0 f l = pieces l
  | 0, l, h => by
    unfold Lib.splitK pieces at *
    rcases index_lf l with ⟨h1, h2⟩ | ⟨a, r, rfl, h2, h3⟩
    · rw [cutFrom_plain _ _ h2]; rfl
    · rw [cutFrom_lf _ _ _ h2] at h
      have := List.length_pos_iff.2 (cutFrom_ne r [])
      rw [List.length_cons] at h
      omega
  | f + 1, l, h => by
    unfold Lib.splitK pieces at *
    rcases index_lf l with ⟨h1, h2⟩ | ⟨a, r, rfl, h2, h3⟩
    · rw [h1, cutFrom_plain _ _ h2]; rfl
    · rw [h3]
      have : ((a.length : Int) == -1) = false := by rw [beq_eq_false_iff_ne]; omega
      rw [this, cutFrom_lf _ _ _ h2]
      rw [cutFrom_lf _ _ _ h2] at h
      have e : (a ++ 10 :: r).drop ((a.length : Int).toNat + [(10 : UInt8)].length) = r := by
        rw [Int.toNat_natCast]
        rw [List.length_singleton, ← List.drop_drop, List.drop_left]
        rfl
      rw [e]
      have := split_lf f r (by unfold pieces; simp at h; omega)
      unfold pieces at this
      rw [this]
      simp
theorem split_pieces (l : List UInt8) : Lib.split l [10] = pieces l := by
  unfold Lib.split Lib.count
  exact split_lf _ l (by rw [count_lf _ l (by omega)]; exact Nat.le_refl _)
theorem pieces_len (l : List UInt8) : (pieces l).length = Lib.count l [10] + 1 := by
  unfold Lib.count
  rw [count_lf _ l (by omega)]

/-! ### A line. -/
/-- Without its comment. -/
def bareL (l : List UInt8) : List UInt8 := l.takeWhile (· != 35)
def mk (l : List UInt8) : ByteArray := ⟨l.toArray⟩
theorem bts_mk (l : List UInt8) : bts (mk l) = l := bytes_mk l
theorem mk_bts (s : ByteArray) : mk (bts s) = s := by
  apply bytes_inj
  exact bts_mk _
def letterB (c : UInt8) : Bool := decide (97 ≤ c.toNat ∧ c.toNat ≤ 122)
def nameC (c : UInt8) : Bool := letterB c || (decide (c.toNat = 95) || decide (48 ≤ c.toNat ∧ c.toNat ≤ 57))
def isName (l : List UInt8) : Bool := decide (l.length ≤ 20) && (match l with | [] => false | c :: r => letterB c && r.all nameC)
/-- The name of a line that is a label. -/
def labelOf (ws : List (List UInt8)) : Option (List UInt8) :=
  match ws with
  | [w] => if w.getLast? = some 58 ∧ isName w.dropLast = true then some w.dropLast else none
  | _ => none
def sJump : List UInt8 := [106, 117, 109, 112]
def sZero : List UInt8 := [122, 101, 114, 111]
def sNonzero : List UInt8 := [110, 111, 110, 122, 101, 114, 111]
/-- A jump to a name. -/
def jumpOf (ws : List (List UInt8)) : Option (Nat × Fields × List UInt8) :=
  match ws with
  | [j, n] => if j = sJump ∧ isName n = true then some (4, ⟨0, 0, 0, 0⟩, n) else none
  | [z, r, n] => if (z = sZero ∨ z = sNonzero) ∧ isName n = true then (regOf r).map fun v => (if z = sNonzero then 6 else 5, ⟨v, 0, 0, 0⟩, n) else none
  | _ => none
inductive Kind
  | empty
  | label (n : List UInt8)
  | ins (k : Int) (q : Fields) (t : List UInt8)
  | bad (e : Int)
/-- What a line is (without its comment). -/
def kind (s : ByteArray) : Kind :=
  if words s = [] then .empty else
  match labelOf ((words s).map bts) with
  | some n => .label n
  | none =>
    match jumpOf ((words s).map bts) with
    | some (k, q, n) => .ins k q n
    | none =>
      match parseQ s with
      | some (k, q) => .ins k q []
      | none => .bad (parseE s)

/-! ### Assembling. -/
structure AItem where
  k : Int
  q : Fields
  t : List UInt8
  line : Nat
structure St where
  items : List AItem
  labels : List (List UInt8 × Nat)
/-- The position that a name stands for. -/
def lookN (L : List (List UInt8 × Nat)) (n : List UInt8) : Option Nat := (L.find? (·.1 == n)).map (·.2)
inductive Res (α : Type)
  | err (line : Nat) (e : Int)
  | ok (a : α)
def stepL (st : St) (n : Nat) (s : List UInt8) : Res St :=
  match kind (mk (bareL s)) with
  | .empty => .ok st
  | .label x => if (lookN st.labels x).isSome then .err n 20 else .ok { st with labels := st.labels ++ [(x, st.items.length)] }
  | .ins k q t => if st.items.length = 64 then .err n 3 else .ok { st with items := st.items ++ [⟨k, q, t, n⟩] }
  | .bad e => .err n e
def readAll : List (List UInt8) → Nat → St → Res St
  | [], _, st => .ok st
  | s :: r, n, st => match stepL st n s with | .ok st' => readAll r (n + 1) st' | .err l e => .err l e
/-- The distances. -/
def setTargets (L : List (List UInt8 × Nat)) : Nat → List AItem → Res (List (Int × Fields))
  | _, [] => .ok []
  | at_, x :: r =>
    if x.t = [] then (match setTargets L (at_ + 1) r with | .ok p => .ok ((x.k, x.q) :: p) | .err l e => .err l e)
    else match lookN L x.t with
      | none => .err x.line 20
      | some p => if p ≤ at_ then .err x.line 20 else
        (match setTargets L (at_ + 1) r with | .ok ps => .ok ((x.k, { x.q with i := (p : Int) - at_ - 1 }) :: ps) | .err l e => .err l e)
def asmV (l : List UInt8) : Res (List (Int × Fields)) :=
  if 65536 < l.length then .err 0 3 else
  match readAll (pieces l) 1 ⟨[], []⟩ with
  | .err n e => .err n e
  | .ok st => setTargets st.labels 0 st.items

theorem bare_nil : bareL [] = [] := rfl
theorem kind_nil : kind (mk (bareL [])) = .empty := by
  unfold kind
  rw [if_pos (by decide +kernel)]
theorem step_nil (st : St) (n : Nat) : stepL st n [] = .ok st := by
  unfold stepL
  rw [kind_nil]
theorem readAll_append : ∀ (a : List (List UInt8)) (b : List (List UInt8)) (n : Nat) (st : St), readAll (a ++ b) n st = match readAll a n st with | .ok st' => readAll b (n + a.length) st' | .err l e => .err l e
  | [], b, n, st => by simp [readAll]
  | s :: a, b, n, st => by
    rw [List.cons_append, readAll, readAll]
    cases stepL st n s with
    | err l e => rfl
    | ok st' =>
      simp only
      rw [readAll_append a b (n + 1) st', List.length_cons, show n + 1 + a.length = n + (a.length + 1) by omega]
/-- A last line that is empty changes nothing. -/
theorem readAll_trim (ps : List (List UInt8)) (n : Nat) (st : St) : readAll (trimLast ps) n st = readAll ps n st := by
  unfold trimLast
  split
  · rename_i h
    have e : ps = ps.dropLast ++ [[]] := by
      have hne : ps ≠ [] := by intro h0; rw [h0] at h; cases h
      have := List.dropLast_concat_getLast hne
      rw [List.getLast?_eq_some_getLast hne] at h
      injection h with h
      rw [h] at this
      exact this.symm
    conv => rhs; rw [e]
    rw [readAll_append]
    cases readAll ps.dropLast n st with
    | err l e => rfl
    | ok st' => simp [readAll, step_nil]
  · rfl

/-! ### Words of a list of bytes. -/
def wordsFrom : List UInt8 → List UInt8 → List (List UInt8)
  | cur, [] => if cur = [] then [] else [cur]
  | cur, c :: r => if c = 32 then (if cur = [] then wordsFrom [] r else cur :: wordsFrom [] r) else wordsFrom (cur ++ [c]) r
def wordsL (l : List UInt8) : List (List UInt8) := wordsFrom [] l
theorem ext_len (s : ByteArray) (b i : Nat) (hb : b ≤ i) (hi : i ≤ s.size) : (bts (s.extract b i)).length = i - b := by
  rw [bytes_len, ByteArray.size_extract]; omega
theorem ext_snoc (s : ByteArray) (b i : Nat) (hb : b ≤ i) (hi : i < s.size) : bts (s.extract b (i + 1)) = bts (s.extract b i) ++ [s.data.toList.getD i 0] := by
  have hs := size_eq s
  unfold bts
  rw [ByteArray.data_extract, ByteArray.data_extract, Array.toList_extract, Array.toList_extract]
  simp only [List.extract]
  rw [show i + 1 - b = (i - b) + 1 by omega, List.take_succ_eq_append_getElem (by rw [List.length_drop]; omega)]
  congr 1
  rw [List.getElem_drop, List.getD_eq_getElem?_getD, List.getElem?_eq_getElem (by omega), Option.getD_some]
  congr 2
  omega
theorem ext_nil (s : ByteArray) (i : Nat) : bts (s.extract i i) = [] := by
  apply List.eq_nil_of_length_eq_zero
  rw [bytes_len, ByteArray.size_extract]; omega
theorem words_from (s : ByteArray) : ∀ (f i b : Nat) (acc : List ByteArray), s.size - i ≤ f → b ≤ i → i ≤ s.size →
    (wordsAt s i b acc).map bts = acc.map bts ++ wordsFrom (bts (s.extract b i)) ((bts s).drop i)
  | 0, i, b, acc, hf, hb, hi => by
    obtain rfl : i = s.size := by omega
    have hs := size_eq s
    rw [wordsAt_sp (Nat.le_refl _) (by omega), wordsAt_end]
    rw [show (bts s).drop s.size = [] from List.drop_eq_nil_of_le (by rw [bytes_len]; exact Nat.le_refl _)]
    unfold wordsFrom
    by_cases hlt : b < s.size
    · have hne : bts (s.extract b s.size) ≠ [] := by
        intro e
        have := ext_len s b s.size hb (Nat.le_refl _)
        rw [e] at this
        simp at this; omega
      rw [if_pos hlt, if_neg hne, List.map_append]; rfl
    · obtain rfl : b = s.size := by omega
      rw [if_neg hlt, if_pos (ext_nil s _), List.append_nil]
  | f + 1, i, b, acc, hf, hb, hi => by
    by_cases hlt : i < s.size
    · have hs := size_eq s
      have hd : (bts s).drop i = s.data.toList.getD i 0 :: (bts s).drop (i + 1) := by
        rw [List.drop_eq_getElem_cons (by rw [bytes_len]; exact hlt)]
        congr 1
        rw [List.getD_eq_getElem?_getD, List.getElem?_eq_getElem (by omega), Option.getD_some]
        rfl
      rw [hd]
      unfold wordsFrom
      by_cases hc : (s.data.toList.getD i 0).toNat = 32
      · have hc2 : s.data.toList.getD i 0 = 32 := UInt8.toNat_inj.1 hc
        rw [wordsAt_sp hi (by rw [hc]; omega), if_pos hc2, words_from s f (i + 1) (i + 1) _ (by omega) (Nat.le_refl _) (by omega), ext_nil]
        by_cases hbi : b < i
        · have hne : bts (s.extract b i) ≠ [] := by
            intro e
            have := ext_len s b i hb hi
            rw [e] at this
            simp at this; omega
          rw [if_pos hbi, if_neg hne, List.map_append]
          simp
        · obtain rfl : b = i := by omega
          rw [if_neg hbi, if_pos (ext_nil s _)]
      · have hc2 : s.data.toList.getD i 0 ≠ 32 := fun e => hc (by rw [e]; rfl)
        rw [wordsAt_in hlt hc, if_neg hc2, words_from s f (i + 1) b acc (by omega) (by omega) (by omega), ext_snoc s b i hb hlt]
    · obtain rfl : i = s.size := by omega
      exact words_from s 0 s.size b acc (by omega) hb (Nat.le_refl _)
/-- The words, as bytes. -/
theorem words_list (s : ByteArray) : (words s).map bts = wordsL (bts s) := by
  have := words_from s s.size 0 0 [] (by omega) (Nat.le_refl _) (by omega)
  rw [wordsAt_start, ext_nil, List.map_nil, List.nil_append, List.drop_zero] at this
  exact this
theorem words_nil_iff (s : ByteArray) : words s = [] ↔ wordsL (bts s) = [] := by
  rw [← words_list, List.map_eq_nil_iff]
theorem wordsFrom_nice : ∀ (l cur : List UInt8), (∀ c ∈ cur, c.toNat ≠ 32) → ∀ y ∈ wordsFrom cur l, Nice y
  | [], cur, h, y, hy => by
    unfold wordsFrom at hy
    split at hy
    · cases hy
    · rename_i hne
      rw [List.mem_singleton] at hy
      subst hy
      exact ⟨hne, h⟩
  | c :: r, cur, h, y, hy => by
    unfold wordsFrom at hy
    split at hy
    · split at hy
      · exact wordsFrom_nice r [] (by simp) y hy
      · rename_i hne
        rcases List.mem_cons.1 hy with rfl | hy
        · exact ⟨hne, h⟩
        · exact wordsFrom_nice r [] (by simp) y hy
    · rename_i hc
      refine wordsFrom_nice r _ (fun x hx => ?_) y hy
      rcases List.mem_append.1 hx with hx | hx
      · exact h x hx
      · rw [List.mem_singleton] at hx
        subst hx
        intro e
        exact hc (UInt8.toNat_inj.1 e)
theorem wordsL_nice (l : List UInt8) : ∀ y ∈ wordsL l, Nice y := wordsFrom_nice l [] (by simp)
def Sp (l : List UInt8) : Prop := ∀ c ∈ l, c = 32
theorem wordsFrom_sp : ∀ (l : List UInt8), Sp l → wordsFrom [] l = []
  | [], _ => rfl
  | c :: r, h => by
    unfold wordsFrom
    rw [if_pos (h c (by simp)), if_pos rfl, wordsFrom_sp r (fun x hx => h x (by simp [hx]))]
theorem wordsL_left : ∀ (a t : List UInt8), Sp a → wordsL (a ++ t) = wordsL t
  | [], t, _ => rfl
  | c :: a, t, h => by
    show wordsFrom [] (c :: (a ++ t)) = _
    rw [wordsFrom, if_pos (h c (by simp)), if_pos rfl]
    exact wordsL_left a t (fun x hx => h x (by simp [hx]))
theorem wordsFrom_right : ∀ (t b cur : List UInt8), Sp b → wordsFrom cur (t ++ b) = wordsFrom cur t
  | [], [], cur, _ => rfl
  | [], c :: b, cur, h => by
    rw [List.nil_append]
    conv => lhs; rw [wordsFrom, if_pos (h c (by simp)), wordsFrom_sp b (fun x hx => h x (by simp [hx]))]
    rfl
  | c :: t, b, cur, h => by
    rw [List.cons_append, wordsFrom, wordsFrom, wordsFrom_right t b [] h, wordsFrom_right t b _ h]
theorem wordsFrom_plain : ∀ (t cur : List UInt8), (∀ c ∈ t, c ≠ 32) → wordsFrom cur t = if cur ++ t = [] then [] else [cur ++ t]
  | [], cur, _ => by simp [wordsFrom]
  | c :: t, cur, h => by
    rw [wordsFrom, if_neg (h c (by simp)), wordsFrom_plain t _ (fun x hx => h x (by simp [hx]))]
    simp
theorem wordsL_plain {t : List UInt8} (hne : t ≠ []) (h : ∀ c ∈ t, c ≠ 32) : wordsL t = [t] := by
  unfold wordsL
  rw [wordsFrom_plain t [] h, List.nil_append, if_neg hne]
theorem split_sp : ∀ (l : List UInt8), (∀ c ∈ l, c ≠ 32) ∨ ∃ a r, l = a ++ 32 :: r ∧ ∀ c ∈ a, c ≠ 32
  | [] => .inl (by simp)
  | c :: l => by
    by_cases hc : c = 32
    · exact .inr ⟨[], l, by rw [hc]; rfl, by simp⟩
    · rcases split_sp l with h | ⟨a, r, rfl, h⟩
      · refine .inl (fun x hx => ?_)
        rcases List.mem_cons.1 hx with rfl | hx
        · exact hc
        · exact h x hx
      · refine .inr ⟨c :: a, r, rfl, fun x hx => ?_⟩
        rcases List.mem_cons.1 hx with rfl | hx
        · exact hc
        · exact h x hx
theorem wordsFrom_cut (a r cur : List UInt8) (h : ∀ c ∈ a, c ≠ 32) (hne : cur ++ a ≠ []) : wordsFrom cur (a ++ 32 :: r) = (cur ++ a) :: wordsFrom [] r := by
  induction a generalizing cur with
  | nil =>
    rw [List.append_nil] at hne ⊢
    rw [List.nil_append, wordsFrom, if_pos rfl, if_neg hne]
  | cons c a ih =>
    rw [List.cons_append, wordsFrom, if_neg (h c (by simp)), ih _ (fun x hx => h x (by simp [hx])) (by simp)]
    simp
theorem wordsL_empty : ∀ (l : List UInt8), wordsL l = [] → Sp l
  | [], _ => by intro c hc; cases hc
  | c :: l, h => by
    by_cases hc : c = 32
    · have h2 : wordsL l = [] := by
        have : wordsFrom [] (c :: l) = [] := h
        rw [wordsFrom, if_pos hc, if_pos rfl] at this
        exact this
      intro x hx
      rcases List.mem_cons.1 hx with rfl | hx
      · exact hc
      · exact wordsL_empty l h2 x hx
    · exfalso
      rcases split_sp (c :: l) with hp | ⟨a, r, e, hp⟩
      · rw [wordsL_plain (by simp) hp] at h; cases h
      · have hne : ([] : List UInt8) ++ a ≠ [] := by
          intro e0
          rw [List.nil_append] at e0
          subst e0
          injection e with e _
          exact hc e
        unfold wordsL at h
        rw [e, wordsFrom_cut a r [] hp hne] at h
        cases h
/-- No space at either end. -/
def Tight (t : List UInt8) : Prop := (∀ c r, t = c :: r → c ≠ 32) ∧ t.getLast? ≠ some 32
theorem tight_empty {t : List UInt8} (h : Tight t) (hw : wordsL t = []) : t = [] := by
  cases t with
  | nil => rfl
  | cons c r => exact absurd (wordsL_empty _ hw c (by simp)) (h.1 c r rfl)
theorem tight_one {t w : List UInt8} (h : Tight t) (hw : wordsL t = [w]) : t = w := by
  rcases split_sp t with hp | ⟨a, r, rfl, hp⟩
  · by_cases hne : t = []
    · subst hne; cases hw
    · rw [wordsL_plain hne hp] at hw
      injection hw
  · exfalso
    have hne : ([] : List UInt8) ++ a ≠ [] := by
      intro e0
      rw [List.nil_append] at e0
      subst e0
      exact h.1 32 r rfl rfl
    unfold wordsL at hw
    rw [wordsFrom_cut a r [] hp hne] at hw
    injection hw with _ hw
    have hs := wordsL_empty r hw
    apply h.2
    rw [List.getLast?_append, List.getLast?_cons]
    cases hr : r.getLast? with
    | none => simp
    | some x =>
      have hx : x ∈ r := List.mem_of_getLast? hr
      simp [hs x hx]
/-- What Trim leaves. -/
theorem trim_parts (l : List UInt8) : ∃ a b, Sp a ∧ Sp b ∧ l = a ++ Lib.trimB l 32 ++ b ∧ Tight (Lib.trimB l 32) := by
  unfold Lib.trimB Lib.trimLeftB Lib.trimRightB
  have hsp : ∀ m : List UInt8, Sp (m.takeWhile (· == 32)) := fun m c hc => by
    have := List.all_takeWhile (p := (· == (32 : UInt8))) (l := m)
    rw [List.all_eq_true] at this
    exact eq_of_beq (this c hc)
  obtain ⟨R, hR⟩ : ∃ R, (l.reverse.dropWhile (· == 32)).reverse = R := ⟨_, rfl⟩
  rw [hR]
  have e1 : l = R ++ (l.reverse.takeWhile (· == 32)).reverse := by
    have := List.takeWhile_append_dropWhile (p := (· == (32 : UInt8))) (l := l.reverse)
    have h2 := congrArg List.reverse this
    rw [List.reverse_append, List.reverse_reverse, hR] at h2
    exact h2.symm
  have e2 := List.takeWhile_append_dropWhile (p := (· == (32 : UInt8))) (l := R)
  have hlast : R.getLast? ≠ some 32 := by
    rw [← hR, List.getLast?_reverse]
    intro h
    have := List.head?_dropWhile_not (p := (· == (32 : UInt8))) (l := l.reverse)
    rw [h] at this
    simp at this
  refine ⟨R.takeWhile (· == 32), (l.reverse.takeWhile (· == 32)).reverse, hsp _, fun c hc => hsp _ c (List.mem_reverse.1 hc), ?_, ?_, ?_⟩
  · rw [e2]; exact e1
  · intro c r h e
    have := List.head?_dropWhile_not (p := (· == (32 : UInt8))) (l := R)
    rw [h] at this
    simp [e] at this
  · intro h
    apply hlast
    rw [← e2, List.getLast?_append, h]
    rfl
theorem trim_words (l : List UInt8) : wordsL (Lib.trimB l 32) = wordsL l := by
  obtain ⟨a, b, ha, hb, e, _⟩ := trim_parts l
  conv => rhs; rw [e]
  rw [List.append_assoc, wordsL_left _ _ ha]
  unfold wordsL
  rw [wordsFrom_right _ _ _ hb]
theorem trim_tight (l : List UInt8) : Tight (Lib.trimB l 32) := by
  obtain ⟨a, b, ha, hb, e, h⟩ := trim_parts l
  exact h
theorem trim_nil_iff (l : List UInt8) : Lib.trimB l 32 = [] ↔ wordsL l = [] := by
  rw [← trim_words]
  constructor
  · intro h; rw [h]; rfl
  · exact tight_empty (trim_tight l)
theorem nameC_ne {c : UInt8} (h : nameC c = true) : c ≠ 32 ∧ c ≠ 10 ∧ c ≠ 35 ∧ c ≠ 58 := by
  unfold nameC letterB at h
  simp only [Bool.or_eq_true, decide_eq_true_eq] at h
  refine ⟨?_, ?_, ?_, ?_⟩ <;> (rintro rfl; revert h; decide)
theorem isName_all {n : List UInt8} (h : isName n = true) : n ≠ [] ∧ n.length ≤ 20 ∧ ∀ c ∈ n, nameC c = true := by
  unfold isName at h
  rw [Bool.and_eq_true, decide_eq_true_eq] at h
  obtain ⟨h0, h⟩ := h
  cases n with
  | nil => cases h
  | cons c r =>
    simp only [Bool.and_eq_true, List.all_eq_true] at h
    refine ⟨by simp, h0, fun x hx => ?_⟩
    rcases List.mem_cons.1 hx with rfl | hx
    · unfold nameC
      rw [h.1]; rfl
    · exact h.2 x hx
/-- The program's way to tell a label. -/
theorem label_trim (l : List UInt8) : labelOf (wordsL l) = if Lib.hasSuffix (Lib.trimB l 32) [58] = true ∧ isName (Lib.trimSuffix (Lib.trimB l 32) [58]) = true then some (Lib.trimSuffix (Lib.trimB l 32) [58]) else none := by
  have ht := trim_tight l
  rw [← trim_words]
  generalize Lib.trimB l 32 = t at ht
  have hsuf : ∀ t : List UInt8, Lib.hasSuffix t [58] = true ↔ t.getLast? = some 58 := by
    intro t
    unfold Lib.hasSuffix
    rw [List.isSuffixOf_iff_suffix]
    constructor
    · rintro ⟨p, rfl⟩; simp
    · intro h
      have hne : t ≠ [] := by rintro rfl; cases h
      have e := List.dropLast_concat_getLast hne
      rw [List.getLast?_eq_some_getLast hne] at h
      injection h with h
      rw [h] at e
      exact ⟨_, e⟩
  have hcut : ∀ t : List UInt8, t.getLast? = some 58 → Lib.trimSuffix t [58] = t.dropLast := by
    intro t h
    unfold Lib.trimSuffix
    rw [(hsuf t).2 h, if_pos rfl, List.dropLast_eq_take]
    rfl
  by_cases h : Lib.hasSuffix t [58] = true ∧ isName (Lib.trimSuffix t [58]) = true
  · rw [if_pos h]
    obtain ⟨h1, h2⟩ := h
    rw [hsuf] at h1
    rw [hcut t h1] at h2 ⊢
    have hne : t ≠ [] := by rintro rfl; cases h1
    have e := List.dropLast_concat_getLast hne
    have hl : t.getLast hne = 58 := by
      rw [List.getLast?_eq_some_getLast hne] at h1
      injection h1
    rw [hl] at e
    have hp : ∀ c ∈ t, c ≠ 32 := by
      intro c hc
      rw [← e] at hc
      rcases List.mem_append.1 hc with hc | hc
      · exact (nameC_ne ((isName_all h2).2.2 c hc)).1
      · rw [List.mem_singleton] at hc
        subst hc
        decide
    rw [wordsL_plain hne hp]
    unfold labelOf
    simp only
    rw [if_pos ⟨h1, h2⟩]
  · rw [if_neg h]
    cases hw : wordsL t with
    | nil => rfl
    | cons w r =>
      cases r with
      | cons _ _ => rfl
      | nil =>
        obtain rfl := tight_one ht hw
        unfold labelOf
        simp only
        rw [if_neg]
        rintro ⟨h1, h2⟩
        apply h
        rw [hsuf, hcut _ h1]
        exact ⟨h1, h2⟩

/-! ### The comment. -/
theorem index_byte (x : UInt8) (l : List UInt8) : (Lib.index l [x] = -1 ∧ ∀ c ∈ l, c ≠ x) ∨ ∃ a r, l = a ++ x :: r ∧ (∀ c ∈ a, c ≠ x) ∧ Lib.index l [x] = (a.length : Int) := by
  induction l with
  | nil => left; exact ⟨rfl, by simp⟩
  | cons b l ih =>
    by_cases hb : b = x
    · subst hb
      right
      refine ⟨[], l, rfl, by simp, ?_⟩
      unfold Lib.index
      simp
    · have hp : ([x] : List UInt8).isPrefixOf (b :: l) = false := by
        simp [List.isPrefixOf, Ne.symm hb]
      rcases ih with ⟨h1, h2⟩ | ⟨a, r, rfl, h2, h3⟩
      · left
        refine ⟨?_, ?_⟩
        · unfold Lib.index
          rw [hp, h1]; rfl
        · intro c hc
          rcases List.mem_cons.1 hc with rfl | hc
          · exact hb
          · exact h2 c hc
      · right
        refine ⟨b :: a, r, rfl, ?_, ?_⟩
        · intro c hc
          rcases List.mem_cons.1 hc with rfl | hc
          · exact hb
          · exact h2 c hc
        · unfold Lib.index
          rw [hp, h3]
          have : ((a.length : Int) == -1) = false := by rw [beq_eq_false_iff_ne]; omega
          rw [this]
          simp
theorem takeWhile_ne {x : UInt8} : ∀ {a r : List UInt8}, (∀ c ∈ a, c ≠ x) → (a ++ x :: r).takeWhile (· != x) = a
  | [], r, _ => by simp
  | c :: a, r, h => by
    rw [List.cons_append, List.takeWhile_cons, if_pos (by simpa using h c (by simp)), takeWhile_ne (fun y hy => h y (by simp [hy]))]
theorem takeWhile_all {x : UInt8} : ∀ {a : List UInt8}, (∀ c ∈ a, c ≠ x) → a.takeWhile (· != x) = a
  | [], _ => rfl
  | c :: a, h => by
    rw [List.takeWhile_cons, if_pos (by simpa using h c (by simp)), takeWhile_all (fun y hy => h y (by simp [hy]))]
theorem cut_bare (l : List UInt8) : (Lib.cut l [35]).1 = bareL l := by
  unfold Lib.cut bareL
  rcases index_byte 35 l with ⟨h1, h2⟩ | ⟨a, r, rfl, h2, h3⟩
  · rw [h1, if_neg (by decide), takeWhile_all h2]
  · rw [h3, if_pos (by omega), takeWhile_ne h2]
    simp
theorem bare_len (l : List UInt8) : (bareL l).length ≤ l.length := by
  unfold bareL
  exact (List.takeWhile_sublist _).length_le

/-! ### A jump to a name, as the program tells it. -/
theorem join_list (x : List UInt8) (r : List (List UInt8)) : Lib.join (x :: r) [32] = flat x r := by
  induction r generalizing x with
  | nil => simp [Lib.join_one, flat]
  | cons y r ih =>
    have e : Lib.join (x :: y :: r) [32] = x ++ ([32] ++ Lib.join (y :: r) [32]) := by
      rw [Lib.join_cons, Lib.join_cons]
      simp [Lib.joinTail]
    rw [e, ih y]
    simp [flat]
theorem nice_zero : Nice [48] := ⟨by simp, by decide⟩
theorem num_zero : num [48] = some 0 := by decide +kernel
theorem named_zero : named [48] = none := by decide +kernel
theorem opOf_at {t : List UInt8} {k : Nat} (h : opOf t = some k) : opNames[k]? = some t := by
  unfold opOf at h
  rw [List.findIdx?_eq_some_iff_getElem] at h
  obtain ⟨hlt, h1, _⟩ := h
  rw [List.getElem?_eq_getElem hlt, eq_of_beq h1]
theorem named_op {t : List UInt8} {k : Nat} {i : Int} (h : named t = some (k, i)) (hk : k ≠ 3) : opNames[k]? = some t ∧ i = 0 := by
  unfold named at h
  split at h
  · injection h with h
    injection h with h _
    exact absurd h.symm hk
  · obtain ⟨j, hj, e⟩ := Option.map_eq_some_iff.1 h
    injection e with e e2
    subst e
    exact ⟨opOf_at hj, e2.symm⟩
theorem named_jump : named sJump = some (4, 0) := by decide +kernel
theorem named_zeroS : named sZero = some (5, 0) := by decide +kernel
theorem named_nonzero : named sNonzero = some (6, 0) := by decide +kernel
theorem parse_words {s : ByteArray} {ws : List (List UInt8)} (hs : s.size ≤ 200) (hw : wordsL (bts s) = ws) : parseQ s = (readV ws).bind fun x => if chk x.1 x.2.a x.2.b x.2.c x.2.i = 0 then some x else none := by
  unfold parseQ
  rw [if_neg (by omega), words_list, hw]
theorem parse_long {s : ByteArray} (hs : 200 < s.size) : parseQ s = none := by
  unfold parseQ
  rw [if_pos hs]
theorem wordsL_flat (x : List UInt8) (r : List (List UInt8)) (hn : ∀ y ∈ x :: r, Nice y) : wordsL (flat x r) = x :: r := by
  have h := words_plain x r hn
  have h2 := words_list (mk (flat x r))
  rw [bts_mk] at h2
  rw [← h2]
  unfold mk
  rw [h, bts_of]
theorem chk_jump (v : Int) (h0 : 0 ≤ v) (h1 : v ≤ 7) (k : Nat) (hk : k = 5 ∨ k = 6) : chk k v 0 0 0 = 0 := by
  have : v = 0 ∨ v = 1 ∨ v = 2 ∨ v = 3 ∨ v = 4 ∨ v = 5 ∨ v = 6 ∨ v = 7 := by omega
  rcases hk with rfl | rfl <;> rcases this with rfl | rfl | rfl | rfl | rfl | rfl | rfl | rfl <;> decide +kernel
/-- What is read of words whose last one, a name, is replaced by 0. -/
def asJump (r : Option (Nat × Fields)) (n : List UInt8) : Option (Nat × Fields × List UInt8) :=
  match r with
  | some (k, q) => if skipsB k q.a q.b q.c q.i = true then some (k, q, n) else none
  | none => none
theorem read_two (h : List UInt8) : readV [h, [48]] = (named h).bind fun x => if (letters x.1).length = 1 then (opers (letters x.1) [[48]] ⟨0, 0, 0, x.2⟩).map fun q => (x.1, q) else none := rfl
theorem read_three (h r : List UInt8) : readV [h, r, [48]] = (named h).bind fun x => if (letters x.1).length = 2 then (opers (letters x.1) [r, [48]] ⟨0, 0, 0, x.2⟩).map fun q => (x.1, q) else none := rfl
theorem skips_op {k : Nat} {a b c i : Int} (h : skipsB k a b c i = true) : chk k a b c i = 0 ∧ (k = 4 ∨ k = 5 ∨ k = 6) := by
  unfold skipsB at h
  simp only [Bool.and_eq_true, Bool.or_eq_true, decide_eq_true_eq] at h
  refine ⟨h.1, ?_⟩
  omega
theorem skips_mk {k : Nat} {a b c i : Int} (h : chk k a b c i = 0) (hk : k = 4 ∨ k = 5 ∨ k = 6) : skipsB k a b c i = true := by
  unfold skipsB
  simp only [Bool.and_eq_true, Bool.or_eq_true, decide_eq_true_eq]
  exact ⟨h, by omega⟩
theorem read_op {k : Nat} {q : Fields} {ws : List (List UInt8)} (h : readV ws = some (k, q)) : ∃ t r i, ws = t :: r ∧ named t = some (k, i) ∧ (letters k).length = r.length ∧ opers (letters k) r ⟨0, 0, 0, i⟩ = some q := by
  cases ws with
  | nil => cases h
  | cons t r =>
    unfold readV at h
    simp only at h
    cases hn : named t with
    | none => rw [hn] at h; cases h
    | some x =>
      rw [hn, Option.bind_some] at h
      split at h
      · rename_i hl
        cases ho : opers (letters x.1) r ⟨0, 0, 0, x.2⟩ with
        | none => rw [ho] at h; cases h
        | some q2 =>
          rw [ho, Option.map_some] at h
          injection h with h
          injection h with h1 h2
          subst h1 h2
          exact ⟨t, r, x.2, rfl, hn, hl, ho⟩
      · cases h
theorem jump_read {ws : List (List UInt8)} {n : List UInt8} {k : Nat} {q : Fields} (hname : isName n = true) (h : readV (ws ++ [[48]]) = some (k, q)) (hk : k = 4 ∨ k = 5 ∨ k = 6) : jumpOf (ws ++ [n]) = some (k, q, n) := by
  obtain ⟨t, r, i, e, h1, h2, h3⟩ := read_op h
  obtain ⟨ho, rfl⟩ := named_op h1 (by omega)
  rcases hk with rfl | rfl | rfl
  · have hr : r.length = 1 := h2.symm
    match ws, r, hr, e with
    | [a], [b], _, e =>
      injection e with e1 e2
      injection e2 with e2 _
      subst e1 e2
      have ht : a = sJump := by injection ho with ho; exact ho.symm
      subst ht
      have hq : q = ⟨0, 0, 0, 0⟩ := by
        have : some (⟨0, 0, 0, 0⟩ : Fields) = some q := h3
        injection this with this
        exact this.symm
      subst hq
      unfold jumpOf
      simp only [List.cons_append, List.nil_append]
      simp [hname]
    | a :: b :: c :: ws, [x], _, e => simp at e
    | [a, b], [x], _, e => simp at e
    | [], [x], _, e => simp at e
  all_goals
    have hr : r.length = 2 := h2.symm
    match ws, r, hr, e with
    | [a, b], [x, y], _, e =>
      injection e with e1 e2
      injection e2 with e2 e3
      injection e3 with e3 _
      subst e1 e2 e3
      have h4 : (operOf 97 b).bind (fun v => (operOf 110 [48]).bind fun u => some (setF 110 u (setF 97 v ⟨0, 0, 0, 0⟩))) = some q := h3
      have e97 : operOf 97 b = regOf b := rfl
      have e110 : operOf 110 [48] = some 0 := num_zero
      rw [e97, e110] at h4
      unfold jumpOf
      simp only [List.cons_append, List.nil_append]
      injection ho with ho
      subst ho
      cases hb : regOf b with
      | none => rw [hb] at h4; cases h4
      | some v =>
        rw [hb] at h4
        injection h4 with h4
        subst h4
        first | (rw [if_pos ⟨.inl rfl, hname⟩]; rfl) | (rw [if_pos ⟨.inr rfl, hname⟩]; rfl)
    | a :: b :: c :: d :: ws, [x, y], _, e => simp at e
    | [a, b, c], [x, y], _, e => simp at e
    | [a], [x, y], _, e => simp at e
    | [], [x, y], _, e => simp at e
theorem jump_parts {W : List (List UInt8)} {k : Nat} {q : Fields} {n : List UInt8} (h : jumpOf W = some (k, q, n)) :
    (k = 4 ∧ W = [sJump, n] ∧ q = ⟨0, 0, 0, 0⟩) ∨ ∃ r v, (k = 5 ∧ W = [sZero, r, n] ∨ k = 6 ∧ W = [sNonzero, r, n]) ∧ regOf r = some v ∧ q = ⟨v, 0, 0, 0⟩ := by
  unfold jumpOf at h
  split at h
  · split at h
    · rename_i hc
      injection h with h
      injection h with h1 h2
      injection h2 with h2 h3
      subst h1 h2 h3
      obtain ⟨rfl, _⟩ := hc
      exact .inl ⟨rfl, rfl, rfl⟩
    · cases h
  · split at h
    · rename_i hc
      obtain ⟨v, hv, e⟩ := Option.map_eq_some_iff.1 h
      injection e with h1 h2
      injection h2 with h2 h3
      subst h2 h3
      obtain ⟨hz, _⟩ := hc
      refine .inr ⟨_, v, ?_, hv, rfl⟩
      rcases hz with rfl | rfl
      · left
        rw [if_neg (by decide)] at h1
        exact ⟨h1.symm, rfl⟩
      · right
        rw [if_pos rfl] at h1
        exact ⟨h1.symm, rfl⟩
    · cases h
  · cases h
theorem reg_len {r : List UInt8} {v : Int} (h : regOf r = some v) : r.length = 2 := by
  unfold regOf at h
  split at h
  · rfl
  · cases h
/-- What the program asks of the words of a line whose last word is a name. -/
theorem jump_as (ws : List (List UInt8)) (n : List UInt8) (hn : ∀ y ∈ ws ++ [n], Nice y) (hname : isName n = true) : asJump (parseQ (mk (Lib.join (ws ++ [[48]]) [32]))) n = jumpOf (ws ++ [n]) := by
  have hn0 : ∀ y ∈ ws ++ [[48]], Nice y := by
    intro y hy
    rcases List.mem_append.1 hy with hy | hy
    · exact hn y (List.mem_append_left _ hy)
    · rw [List.mem_singleton] at hy
      subst hy
      exact nice_zero
  have hwl : wordsL (bts (mk (Lib.join (ws ++ [[48]]) [32]))) = ws ++ [[48]] := by
    rw [bts_mk]
    cases ws with
    | nil => exact wordsL_flat [48] [] hn0
    | cons x r =>
      rw [List.cons_append, join_list]
      exact wordsL_flat x (r ++ [[48]]) hn0
  cases hj : jumpOf (ws ++ [n]) with
  | some x =>
    obtain ⟨k, q, m⟩ := x
    have key : ∀ (W : List (List UInt8)), ws ++ [n] = W ++ [m] → ws = W ∧ n = m := fun W e => by
      obtain ⟨e1, e2⟩ := List.append_inj' e rfl
      injection e2 with e2 _
      exact ⟨e1, e2⟩
    rcases jump_parts hj with ⟨rfl, e, rfl⟩ | ⟨r, v, h, hr, rfl⟩
    · obtain ⟨rfl, rfl⟩ := key [sJump] e
      have hs : (mk (Lib.join ([sJump] ++ [[48]]) [32])).size ≤ 200 := by decide +kernel
      rw [parse_words hs hwl]
      have : readV ([sJump] ++ [[48]]) = some (4, ⟨0, 0, 0, 0⟩) := by
        show readV [sJump, [48]] = _
        rw [read_two, named_jump]
        rfl
      rw [this, Option.bind_some]
      rfl
    · have hb := regOf_bd r v hr
      have hl := reg_len hr
      rcases h with ⟨rfl, e⟩ | ⟨rfl, e⟩
      all_goals
        obtain ⟨rfl, rfl⟩ := key [_, r] e
      · have hs : (mk (Lib.join ([sZero, r] ++ [[48]]) [32])).size ≤ 200 := by
          rw [List.cons_append, join_list, ← bytes_len, bts_mk]
          unfold flat
          simp [hl, sZero]
        have hc := chk_jump v hb.1 hb.2 5 (.inl rfl)
        rw [parse_words hs hwl]
        have : readV ([sZero, r] ++ [[48]]) = some (5, ⟨v, 0, 0, 0⟩) := by
          show readV [sZero, r, [48]] = _
          rw [read_three, named_zeroS]
          have h4 : opers (letters 5) [r, [48]] ⟨0, 0, 0, 0⟩ = (operOf 97 r).bind (fun v => (operOf 110 [48]).bind fun u => some (setF 110 u (setF 97 v ⟨0, 0, 0, 0⟩))) := rfl
          have e97 : operOf 97 r = regOf r := rfl
          have e110 : operOf 110 [48] = some 0 := num_zero
          rw [e97, e110, hr] at h4
          rw [Option.bind_some]
          simp only
          rw [h4]
          rfl
        rw [this, Option.bind_some]
        simp only
        rw [if_pos hc]
        unfold asJump
        simp only
        rw [if_pos (skips_mk hc (by omega))]
      · have hs : (mk (Lib.join ([sNonzero, r] ++ [[48]]) [32])).size ≤ 200 := by
          rw [List.cons_append, join_list, ← bytes_len, bts_mk]
          unfold flat
          simp [hl, sNonzero]
        have hc := chk_jump v hb.1 hb.2 6 (.inr rfl)
        rw [parse_words hs hwl]
        have : readV ([sNonzero, r] ++ [[48]]) = some (6, ⟨v, 0, 0, 0⟩) := by
          show readV [sNonzero, r, [48]] = _
          rw [read_three, named_nonzero]
          have h4 : opers (letters 6) [r, [48]] ⟨0, 0, 0, 0⟩ = (operOf 97 r).bind (fun v => (operOf 110 [48]).bind fun u => some (setF 110 u (setF 97 v ⟨0, 0, 0, 0⟩))) := rfl
          have e97 : operOf 97 r = regOf r := rfl
          have e110 : operOf 110 [48] = some 0 := num_zero
          rw [e97, e110, hr] at h4
          rw [Option.bind_some]
          simp only
          rw [h4]
          rfl
        rw [this, Option.bind_some]
        simp only
        rw [if_pos hc]
        unfold asJump
        simp only
        rw [if_pos (skips_mk hc (by omega))]
  | none =>
    by_cases hs : 200 < (mk (Lib.join (ws ++ [[48]]) [32])).size
    · rw [parse_long hs]; rfl
    · rw [parse_words (by omega) hwl]
      cases hr : readV (ws ++ [[48]]) with
      | none => rfl
      | some x =>
        obtain ⟨k, q⟩ := x
        rw [Option.bind_some]
        simp only
        split
        · unfold asJump
          simp only
          split
          · rename_i hsk
            have := jump_read hname hr (skips_op hsk).2
            rw [hj] at this
            cases this
          · rfl
        · rfl
end Go.Proofs.YtcplhochgngedaaGreatDoor.AsmS
