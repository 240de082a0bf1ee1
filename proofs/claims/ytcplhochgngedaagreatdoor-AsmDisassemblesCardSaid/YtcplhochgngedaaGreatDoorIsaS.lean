/-
  Layer 3 (isa), plain mathematics, no program: which instructions are valid, what they use, their texts, and how a text is read; splitting a text at spaces; reading a decimal number.
-/
import Derived.Lib.FieldsP
import Derived.Lib.DecodeN
import Derived.Lib.AtoiAll
import Derived.Lib.Hide
namespace Go.Proofs.YtcplhochgngedaaGreatDoor.IsaS
set_option linter.unusedVariables false

/-! ### Splitting at spaces. -/
/-- The loop that splits: at place i, the word that is open began at b. -/
def wordsGo (s : ByteArray) : Nat → Nat → Nat → List ByteArray → List ByteArray
  | 0, _, _, acc => acc
  | f + 1, i, b, acc =>
    if i ≤ s.size then
      (if i < s.size ∧ (s.data.toList.getD i 0).toNat ≠ 32 then wordsGo s f (i + 1) b acc
       else wordsGo s f (i + 1) (i + 1) (if b < i then acc ++ [s.extract b i] else acc))
    else acc
def words (s : ByteArray) : List ByteArray := wordsGo s (s.size + 1) 0 0 []
/-- What the loop gives from place i on. -/
def wordsAt (s : ByteArray) (i b : Nat) (acc : List ByteArray) : List ByteArray := wordsGo s (s.size + 1 - i) i b acc
theorem wordsAt_start (s : ByteArray) : wordsAt s 0 0 [] = words s := rfl
theorem wordsAt_in {s : ByteArray} {i b : Nat} {acc : List ByteArray} (h : i < s.size) (hc : (s.data.toList.getD i 0).toNat ≠ 32) : wordsAt s i b acc = wordsAt s (i + 1) b acc := by
  unfold wordsAt
  rw [show s.size + 1 - i = (s.size + 1 - (i + 1)) + 1 by omega]
  rw [wordsGo, if_pos (by omega), if_pos ⟨h, hc⟩]
theorem wordsAt_sp {s : ByteArray} {i b : Nat} {acc : List ByteArray} (h : i ≤ s.size) (hc : ¬ (i < s.size ∧ (s.data.toList.getD i 0).toNat ≠ 32)) :
    wordsAt s i b acc = wordsAt s (i + 1) (i + 1) (if b < i then acc ++ [s.extract b i] else acc) := by
  unfold wordsAt
  rw [show s.size + 1 - i = (s.size + 1 - (i + 1)) + 1 by omega]
  rw [wordsGo, if_pos (by omega), if_neg hc]
theorem wordsAt_end {s : ByteArray} {b : Nat} {acc : List ByteArray} : wordsAt s (s.size + 1) b acc = acc := by
  unfold wordsAt
  rw [Nat.sub_self]; rfl

theorem byte_at (s : ByteArray) (i : Nat) (h : i < s.size) : s.data.toList.getD i 0 = s.get! i := by
  rw [List.getD_eq_getElem?_getD]
  have h' : i < s.data.size := h
  simp only [Array.getElem?_toList, Array.getElem?_eq_getElem h', Option.getD_some]
  show _ = s.data[i]!
  rw [getElem!_pos s.data i h']

theorem wordsGo_prop (s : ByteArray) (P : ByteArray → Prop) (hP : ∀ b i, b < i → i ≤ s.size → P (s.extract b i)) : ∀ (f i b : Nat) (acc : List ByteArray), (∀ x ∈ acc, P x) → (∀ x ∈ wordsGo s f i b acc, P x) ∧ (wordsGo s f i b acc).length ≤ acc.length + f
  | 0, _, _, acc, h => ⟨h, Nat.le_refl _⟩
  | f + 1, i, b, acc, h => by
    unfold wordsGo
    split
    · rename_i hi
      split
      · have := wordsGo_prop s P hP f (i + 1) b acc h
        exact ⟨this.1, by omega⟩
      · by_cases hb : b < i
        · rw [if_pos hb]
          have := wordsGo_prop s P hP f (i + 1) (i + 1) (acc ++ [s.extract b i]) (fun x hx => by
            rcases List.mem_append.1 hx with hx | hx
            · exact h x hx
            · rw [List.mem_singleton] at hx
              exact hx ▸ hP b i hb hi)
          refine ⟨this.1, ?_⟩
          have h2 := this.2
          rw [List.length_append, List.length_singleton] at h2
          omega
        · rw [if_neg hb]
          have := wordsGo_prop s P hP f (i + 1) (i + 1) acc h
          exact ⟨this.1, by omega⟩
    · exact ⟨h, by omega⟩
theorem words_size (s x : ByteArray) (hx : x ∈ words s) : 0 < x.size ∧ x.size ≤ s.size :=
  (wordsGo_prop s (fun x => 0 < x.size ∧ x.size ≤ s.size) (fun b i hb hi => by rw [ByteArray.size_extract]; omega) (s.size + 1) 0 0 [] (by simp)).1 x hx
theorem words_len (s : ByteArray) : (words s).length ≤ s.size + 1 := by
  have := (wordsGo_prop s (fun _ => True) (fun _ _ _ _ => trivial) (s.size + 1) 0 0 [] (by simp)).2
  simpa [words] using this
/-- A rune that is a space is one byte 32; a rune that is none holds no byte 32. -/
theorem decode_space (s : ByteArray) (i : Nat) (h : i < s.size) :
    ((Utf8.decode s i).1 = 32 → (Utf8.decode s i).2 = 1 ∧ (s.data.toList.getD i 0).toNat = 32) ∧
    ((Utf8.decode s i).1 ≠ 32 → 1 ≤ (Utf8.decode s i).2 ∧ i + (Utf8.decode s i).2 ≤ s.size ∧ ∀ j, j < (Utf8.decode s i).2 → (s.data.toList.getD (i + j) 0).toNat ≠ 32) := by
  have e0 := byte_at s i h
  have e1 : i + 1 < s.size → _ := byte_at s (i + 1)
  have e2 : i + 2 < s.size → _ := byte_at s (i + 2)
  have e3 : i + 3 < s.size → _ := byte_at s (i + 3)
  rw [Lib.decode_at]
  generalize (s.get! i) = b0 at *
  generalize (s.get! (i + 1)) = b1 at *
  generalize (s.get! (i + 2)) = b2 at *
  generalize (s.get! (i + 3)) = b3 at *
  have l0 := b0.toNat_lt; have l1 := b1.toNat_lt; have l2 := b2.toNat_lt; have l3 := b3.toNat_lt
  have key : ∀ n x0 x1 x2 x3 : Nat, x0 < 256 → 1 ≤ n → ((Lib.decodeN n x0 x1 x2 x3).1 = 32 → (Lib.decodeN n x0 x1 x2 x3).2 = 1 ∧ x0 = 32) ∧
      ((Lib.decodeN n x0 x1 x2 x3).1 ≠ 32 → 1 ≤ (Lib.decodeN n x0 x1 x2 x3).2 ∧ (Lib.decodeN n x0 x1 x2 x3).2 ≤ n ∧ (Lib.decodeN n x0 x1 x2 x3).2 ≤ 4 ∧ x0 ≠ 32 ∧ (1 < (Lib.decodeN n x0 x1 x2 x3).2 → x1 ≠ 32) ∧ (2 < (Lib.decodeN n x0 x1 x2 x3).2 → x2 ≠ 32) ∧ (3 < (Lib.decodeN n x0 x1 x2 x3).2 → x3 ≠ 32)) := by
    intro n x0 x1 x2 x3 hx hn
    unfold Lib.decodeN
    repeat' split
    all_goals
      refine ⟨fun hh => ?_, fun hh => ⟨?_, ?_, ?_, ?_, fun h1 => ?_, fun h2 => ?_, fun h3 => ?_⟩⟩ <;> dsimp only at * <;> omega
  obtain ⟨k1, k2⟩ := key (s.size - i) b0.toNat b1.toNat b2.toNat b3.toNat l0 (by omega)
  refine ⟨fun hh => ?_, fun hh => ?_⟩
  · obtain ⟨a, b⟩ := k1 hh
    exact ⟨a, by rw [e0]; exact b⟩
  · obtain ⟨a, b, b4, c, d1, d2, d3⟩ := k2 hh
    refine ⟨a, by omega, fun j hj => ?_⟩
    have hj4 : j = 0 ∨ j = 1 ∨ j = 2 ∨ j = 3 := by omega
    rcases hj4 with rfl | rfl | rfl | rfl
    · rw [Nat.add_zero, e0]; exact c
    · rw [e1 (by omega)]; exact d1 hj
    · rw [e2 (by omega)]; exact d2 hj
    · rw [e3 (by omega)]; exact d3 hj

theorem wordsAt_run {s : ByteArray} {b : Nat} {acc : List ByteArray} : ∀ (k i : Nat), i + k ≤ s.size → (∀ j, j < k → (s.data.toList.getD (i + j) 0).toNat ≠ 32) → wordsAt s i b acc = wordsAt s (i + k) b acc
  | 0, i, _, _ => rfl
  | k + 1, i, h, hc => by
    rw [wordsAt_in (by omega) (by simpa using hc 0 (by omega)), wordsAt_run k (i + 1) (by omega) (fun j hj => by have := hc (j + 1) (by omega); rwa [show i + (j + 1) = i + 1 + j by omega] at this)]
    rw [show i + 1 + k = i + (k + 1) by omega]

/-- The predicate that is handed to FieldsFunc. -/
def isSp (r : Nat) : Bool := decide (r = 32)
theorem spans_words (s : ByteArray) : ∀ (f pos : Nat) (st : Option Nat) (acc : List (Nat × Nat)) (b : Nat), s.size ≤ pos + f → pos ≤ s.size → (st = some b ∧ b < pos ∨ st = none ∧ b = pos) →
    (Lib.closeSpans s (Lib.spansFromP isSp s f pos st acc)).map (fun x => s.extract x.1 x.2) = wordsAt s pos b (acc.map fun x => s.extract x.1 x.2)
  | 0, pos, st, acc, b, hf, hp, hst => by
    obtain rfl : pos = s.size := by omega
    rw [wordsAt_sp (Nat.le_refl _) (by omega), wordsAt_end]
    rcases hst with ⟨rfl, hb⟩ | ⟨rfl, rfl⟩
    · rw [if_pos hb]; simp [Lib.spansFromP, Lib.closeSpans]
    · rw [if_neg (by omega)]; simp [Lib.spansFromP, Lib.closeSpans]
  | f + 1, pos, st, acc, b, hf, hp, hst => by
    by_cases hlt : pos < s.size
    · obtain ⟨d1, d2⟩ := decode_space s pos hlt
      by_cases hs : (Utf8.decode s pos).1 = 32
      · obtain ⟨e1, e2⟩ := d1 hs
        rw [wordsAt_sp hp (by rw [e2]; omega)]
        rcases hst with ⟨rfl, hb⟩ | ⟨rfl, rfl⟩
        · rw [if_pos hb, Lib.spansFromP, if_pos hlt, if_pos (by unfold isSp; rw [hs]; rfl), e1]
          have := spans_words s f (pos + 1) none (acc ++ [(b, pos)]) (pos + 1) (by omega) (by omega) (.inr ⟨rfl, rfl⟩)
          rw [List.map_append] at this
          exact this
        · rw [if_neg (by omega), Lib.spansFromP, if_pos hlt, if_pos (by unfold isSp; rw [hs]; rfl), e1]
          exact spans_words s f (b + 1) none acc (b + 1) (by omega) (by omega) (.inr ⟨rfl, rfl⟩)
      · obtain ⟨e1, e2, e3⟩ := d2 hs
        rw [wordsAt_run _ pos e2 e3]
        rcases hst with ⟨rfl, hb⟩ | ⟨rfl, rfl⟩
        · rw [Lib.spansFromP, if_pos hlt, if_neg (by unfold isSp; simpa using hs)]
          exact spans_words s f _ (some b) acc b (by omega) e2 (.inl ⟨rfl, by omega⟩)
        · rw [Lib.spansFromP, if_pos hlt, if_neg (by unfold isSp; simpa using hs)]
          exact spans_words s f _ (some b) acc b (by omega) e2 (.inl ⟨rfl, by omega⟩)
    · obtain rfl : pos = s.size := by omega
      rw [Lib.spansFromP_end _ _ _ _ _ _ (by omega), wordsAt_sp (Nat.le_refl _) (by omega), wordsAt_end]
      rcases hst with ⟨rfl, hb⟩ | ⟨rfl, rfl⟩
      · rw [if_pos hb]; simp [Lib.closeSpans]
      · rw [if_neg (by omega)]; simp [Lib.closeSpans]
/-- FieldsFunc at spaces gives the words. -/
theorem fields_words (s : ByteArray) : Lib.goFieldsP isSp s = words s :=
  spans_words s s.size 0 none [] 0 (by omega) (by omega) (.inr ⟨rfl, rfl⟩)

/-! ### Decimal numbers. -/
/-- The opposite of the number that the digits spell, v that of those before; none if it is no int. -/
def goNum (v : Int) : List UInt8 → Option Int
  | [] => some v
  | c :: r =>
    if 48 ≤ c.toNat ∧ c.toNat ≤ 57 then
      (if v < -922337203685477580 ∨ (v = -922337203685477580 ∧ 8 < c.toNat - 48) then none else goNum (10 * v - (c.toNat - 48 : Nat)) r)
    else none
/-- The number that a word spells, if it is an int. -/
def num (l : List UInt8) : Option Int :=
  match l with
  | [] => none
  | c :: r =>
    if c.toNat = 45 then (if r = [] then none else goNum 0 r)
    else match goNum 0 l with
      | some v => if v = -9223372036854775808 then none else some (-v)
      | none => none

theorem parse_ge : ∀ (l : List UInt8) (b u : Nat), Lib.parseUint10 b l = .ok u → b ≤ u
  | [], b, u, h => by
    simp only [Lib.parseUint10] at h
    injection h with h
    omega
  | c :: r, b, u, h => by
    simp only [Lib.parseUint10] at h
    by_cases hd : 48 ≤ c.toNat ∧ c.toNat ≤ 57
    · rw [if_pos hd] at h
      split at h
      · cases h
      · split at h
        · cases h
        · have := parse_ge r _ u h
          omega
    · rw [if_neg hd] at h
      cases h
theorem goNum_parse : ∀ (l : List UInt8) (a : Nat), a ≤ 9223372036854775808 →
    goNum (-(a : Int)) l = match Lib.parseUint10 a l with | .ok u => if u ≤ 9223372036854775808 then some (-(u : Int)) else none | _ => none
  | [], a, h => by simp [goNum, Lib.parseUint10, h]
  | c :: r, a, h => by
    unfold goNum
    simp only [Lib.parseUint10]
    by_cases hd : 48 ≤ c.toNat ∧ c.toNat ≤ 57
    · rw [if_pos hd, if_pos hd]
      by_cases ho : -(a : Int) < -922337203685477580 ∨ (-(a : Int) = -922337203685477580 ∧ 8 < c.toNat - 48)
      · rw [if_pos ho]
        by_cases h1 : 1844674407370955162 ≤ a
        · rw [if_pos h1]
        · rw [if_neg h1]
          by_cases h2 : 18446744073709551616 ≤ a * 10 + (c.toNat - 48)
          · rw [if_pos h2]
          · rw [if_neg h2]
            cases hp : Lib.parseUint10 (a * 10 + (c.toNat - 48)) r with
            | ok u =>
              have := parse_ge _ _ _ hp
              simp only
              rw [if_neg (by omega)]
            | _ => rfl
      · have e : 10 * -(a : Int) - ((c.toNat - 48 : Nat) : Int) = -((a * 10 + (c.toNat - 48) : Nat) : Int) := by omega
        rw [if_neg ho, e, goNum_parse r (a * 10 + (c.toNat - 48)) (by omega), if_neg (by omega), if_neg (by omega)]
    · rw [if_neg hd, if_neg hd]
theorem num_plus (r : List UInt8) (c : UInt8) (hc : c.toNat = 43) : num (c :: r) = none := by
  unfold num
  simp only
  rw [if_neg (by omega)]
  unfold goNum
  rw [if_neg (by omega)]
theorem num_atoi (l : List UInt8) (h : ∀ c, l.head? = some c → c.toNat ≠ 43) : num l = match Lib.atoiAll l with | .ok v => some v | _ => none := by
  cases l with
  | nil => rfl
  | cons c r =>
    have hc := h c rfl
    unfold num Lib.atoiAll
    simp only
    by_cases h45 : c.toNat = 45
    · have e43 : (if c.toNat = 43 ∨ c.toNat = 45 then r else c :: r) = r := if_pos (.inr h45)
      rw [e43]
      have e45 : ∀ {α : Type} (x y : α), (if c.toNat = 45 then x else y) = x := fun x y => if_pos h45
      rw [e45]
      unfold Lib.parseMag
      by_cases hr : r = []
      · rw [if_pos hr, if_pos hr]
      · rw [if_neg hr, if_neg hr]
        have := goNum_parse r 0 (by omega)
        rw [show (-((0 : Nat) : Int)) = 0 from rfl] at this
        rw [this]
        cases Lib.parseUint10 0 r with
        | ok u =>
          simp only
          rw [if_neg (show ¬ (¬ c.toNat = 45 ∧ 9223372036854775808 ≤ u) from fun hh => hh.1 h45)]
          by_cases hu : u ≤ 9223372036854775808
          · rw [if_pos hu, if_neg (show ¬ (c.toNat = 45 ∧ 9223372036854775808 < u) from fun hh => by omega), e45]
          · rw [if_neg hu, if_pos ⟨h45, by omega⟩]
        | _ => rfl
    · have e43 : (if c.toNat = 43 ∨ c.toNat = 45 then r else c :: r) = c :: r := if_neg (by omega)
      rw [e43]
      have e45 : ∀ {α : Type} (x y : α), (if c.toNat = 45 then x else y) = y := fun x y => if_neg h45
      rw [e45]
      unfold Lib.parseMag
      rw [if_neg (by simp)]
      have := goNum_parse (c :: r) 0 (by omega)
      rw [show (-((0 : Nat) : Int)) = 0 from rfl] at this
      rw [this]
      cases Lib.parseUint10 0 (c :: r) with
      | ok u =>
        simp only
        by_cases hu : u ≤ 9223372036854775808
        · rw [if_pos hu]
          simp only
          by_cases he : u = 9223372036854775808
          · rw [if_pos (by omega), if_pos ⟨h45, by omega⟩]
          · rw [if_neg (by omega), if_neg (show ¬ (¬ c.toNat = 45 ∧ 9223372036854775808 ≤ u) from fun hh => by omega), if_neg (show ¬ (c.toNat = 45 ∧ 9223372036854775808 < u) from fun hh => by omega), e45]
            simp only
            rw [Int.neg_neg]
        · rw [if_neg hu, if_pos ⟨h45, by omega⟩]
      | _ => rfl
theorem goNum_le : ∀ (l : List UInt8) (v u : Int), -9223372036854775808 ≤ v → v ≤ 0 → goNum v l = some u → -9223372036854775808 ≤ u ∧ u ≤ 0
  | [], v, u, h0, h1, h => by
    simp only [goNum] at h
    injection h with h
    omega
  | c :: r, v, u, h0, h1, h => by
    unfold goNum at h
    split at h
    · split at h
      · cases h
      · exact goNum_le r _ u (by omega) (by omega) h
    · cases h
theorem num_bd (l : List UInt8) (v : Int) (h : num l = some v) : -9223372036854775808 ≤ v ∧ v ≤ 9223372036854775807 := by
  unfold num at h
  split at h
  · cases h
  · rename_i c r
    split at h
    · split at h
      · cases h
      · have := goNum_le _ _ _ (by omega) (by omega) h; omega
    · split at h
      · rename_i u hu
        have := goNum_le _ _ _ (by omega) (by omega) hu
        split at h
        · cases h
        · injection h with h; omega
      · cases h

/-- The register that a word names. -/
def regOf (l : List UInt8) : Option Int :=
  match l with
  | [a, b] => if a.toNat = 114 ∧ 48 ≤ b.toNat ∧ b.toNat ≤ 55 then some ((b.toNat : Int) - 48) else none
  | _ => none
theorem regOf_bd (l : List UInt8) (v : Int) (h : regOf l = some v) : 0 ≤ v ∧ v ≤ 7 := by
  unfold regOf at h
  split at h
  · split at h
    · injection h with h; omega
    · cases h
  · cases h
end Go.Proofs.YtcplhochgngedaaGreatDoor.IsaS
