/-
  Layer 3, plain mathematics: the text of a valid instruction is read as this instruction, also with spaces around it.
-/
import Derived.Test.YtcplhochgngedaaGreatDoorIsaX
import Derived.Test.YtcplhochgngedaaGreatDoorRefF
import Derived.Lib.ItoaLen
namespace Go.Proofs.YtcplhochgngedaaGreatDoor.IsaR
open Go.ChangeShapes Go.WideShapes Go.ChangeAt Go.RowKit
open PlainT IsaE IsaS BlkW IsaA IsaB IsaF IsaP IsaQ IsaX RefF
set_option linter.unusedVariables false

/-! ### Numbers. -/
theorem digit_nat (u : Nat) (h : u < 10) : (UInt8.ofNat (48 + u)).toNat = 48 + u := by
  rw [UInt8.toNat_ofNat']; omega
theorem goNum_digits : ∀ (u : Nat), u ≤ 9223372036854775808 → ∀ r : List UInt8, goNum 0 (Lib.decDigits u ++ r) = goNum (-(u : Int)) r := by
  intro u
  induction u using Nat.strongRecOn with
  | _ u ih =>
    intro hu r
    by_cases h : u < 10
    · rw [Lib.decDigits, dif_pos h, List.singleton_append]
      rw [goNum, digit_nat u h, if_pos (by omega), if_neg (by omega)]
      congr 1
      omega
    · rw [Lib.decDigits, dif_neg h, List.append_assoc, ih (u / 10) (by omega) (by omega), List.singleton_append]
      rw [goNum, digit_nat (u % 10) (by omega), if_pos (by omega), if_neg (by omega)]
      congr 1
      omega
theorem digits_ne (u : Nat) : Lib.decDigits u ≠ [] := by
  rw [Lib.decDigits]
  split <;> simp
theorem digits_all (u : Nat) : ∀ c ∈ Lib.decDigits u, 48 ≤ c.toNat ∧ c.toNat ≤ 57 := by
  induction u using Nat.strongRecOn with
  | _ u ih =>
    intro c hc
    rw [Lib.decDigits] at hc
    split at hc
    · rename_i h
      rw [List.mem_singleton] at hc
      rw [hc, digit_nat u h]; omega
    · rcases List.mem_append.1 hc with hc | hc
      · exact ih (u / 10) (by omega) c hc
      · rw [List.mem_singleton] at hc
        rw [hc, digit_nat (u % 10) (by omega)]; omega
theorem num_itoa (x : Int) (h : InInt x) : num (Lib.itoa x) = some x := by
  obtain ⟨h0, h1⟩ := h
  unfold Lib.itoa
  by_cases hx : x < 0
  · rw [if_pos hx]
    unfold num
    simp only
    rw [if_pos (by decide), if_neg (digits_ne _)]
    have := goNum_digits x.natAbs (by omega) []
    rw [List.append_nil] at this
    rw [this, goNum]
    congr 1
    omega
  · rw [if_neg hx]
    have hg := goNum_digits x.toNat (by omega) []
    rw [List.append_nil, goNum] at hg
    have ha := digits_all x.toNat
    cases hd : Lib.decDigits x.toNat with
    | nil => exact absurd hd (digits_ne _)
    | cons c r =>
      rw [hd] at hg ha
      have hc := ha c (by simp)
      unfold num
      simp only
      rw [if_neg (by omega), hg]
      simp only
      rw [if_neg (by omega)]
      congr 1
      omega
theorem itoa_no_space (x : Int) : ∀ c ∈ Lib.itoa x, c.toNat ≠ 32 := by
  intro c hc
  unfold Lib.itoa at hc
  split at hc
  · rcases List.mem_cons.1 hc with rfl | hc
    · decide
    · have := digits_all _ c hc; omega
  · have := digits_all _ c hc; omega
theorem itoa_ne (x : Int) : Lib.itoa x ≠ [] := by
  unfold Lib.itoa
  split
  · simp
  · exact digits_ne _
theorem reg_itoa (x : Int) (h0 : 0 ≤ x) (h1 : x < 8) : regOf (114 :: Lib.itoa x) = some x := by
  unfold Lib.itoa
  rw [if_neg (by omega), Lib.decDigits, dif_pos (by omega)]
  unfold regOf
  simp only
  rw [digit_nat _ (by omega), if_pos (by constructor; decide; omega)]
  congr 1
  omega

/-! ### Words. -/
/-- A word: not empty, no space in it. -/
def Nice (x : List UInt8) : Prop := x ≠ [] ∧ ∀ c ∈ x, c.toNat ≠ 32
theorem drop_get {L : List UInt8} {i : Nat} {c : UInt8} {r : List UInt8} (h : L.drop i = c :: r) : i < L.length ∧ L.getD i 0 = c ∧ L.drop (i + 1) = r := by
  have hl : i < L.length := by
    have := congrArg List.length h
    simp at this; omega
  rw [List.drop_eq_getElem_cons hl] at h
  injection h with h1 h2
  exact ⟨hl, by rw [List.getD_eq_getElem?_getD, List.getElem?_eq_getElem hl, Option.getD_some, h1], h2⟩
theorem drop_app {L x r : List UInt8} {i : Nat} (h : L.drop i = x ++ r) : L.drop (i + x.length) = r ∧ i + x.length ≤ i + (L.length - i) ∧ ∀ j, j < x.length → L.getD (i + j) 0 = x.getD j 0 := by
  refine ⟨?_, ?_, fun j hj => ?_⟩
  · rw [← List.drop_drop, h, List.drop_left]
  · have := congrArg List.length h
    simp at this; omega
  · have := congrArg (fun l => l[j]?) h
    simp only [List.getElem?_drop] at this
    rw [List.getD_eq_getElem?_getD, this, List.getElem?_append_left hj, List.getD_eq_getElem?_getD]
theorem size_eq (s : ByteArray) : s.size = s.data.toList.length := by rw [Array.length_toList]; rfl
theorem extract_eq (s : ByteArray) (i : Nat) (x r : List UInt8) (h : s.data.toList.drop i = x ++ r) : s.extract i (i + x.length) = ⟨x.toArray⟩ := by
  apply ByteArray.ext
  rw [ByteArray.data_extract]
  apply Array.ext'
  rw [Array.toList_extract]
  simp only [List.extract, h]
  rw [show i + x.length - i = x.length by omega, List.take_left]
theorem at_word {s : ByteArray} {i : Nat} {acc : List ByteArray} {x r : List UInt8} (hx : Nice x) (h : s.data.toList.drop i = x ++ 32 :: r) :
    wordsAt s i i acc = wordsAt s (i + x.length + 1) (i + x.length + 1) (acc ++ [⟨x.toArray⟩]) ∧ s.data.toList.drop (i + x.length + 1) = r := by
  obtain ⟨h1, h2, h3⟩ := drop_app h
  obtain ⟨g1, g2, g3⟩ := drop_get h1
  have hs := size_eq s
  have hx0 : 0 < x.length := List.length_pos_iff.2 hx.1
  refine ⟨?_, g3⟩
  rw [wordsAt_run x.length i (by omega) (fun j hj => by
    rw [h3 j hj, List.getD_eq_getElem?_getD, List.getElem?_eq_getElem hj]
    exact hx.2 _ (List.getElem_mem hj))]
  rw [wordsAt_sp (by omega) (by rw [g2]; rintro ⟨_, hh⟩; exact hh (by decide)), if_pos (by omega), extract_eq s i x _ h]
theorem at_last {s : ByteArray} {i : Nat} {acc : List ByteArray} {x : List UInt8} (hx : Nice x) (h : s.data.toList.drop i = x) : wordsAt s i i acc = acc ++ [⟨x.toArray⟩] := by
  have h' : s.data.toList.drop i = x ++ [] := by rw [h, List.append_nil]
  obtain ⟨h1, h2, h3⟩ := drop_app h'
  have hs := size_eq s
  have hx0 : 0 < x.length := List.length_pos_iff.2 hx.1
  have hle : s.data.toList.length ≤ i + x.length := by
    have := congrArg List.length h1
    simp only [List.length_drop, List.length_nil] at this; omega
  have hlen := congrArg List.length h
  simp only [List.length_drop] at hlen
  rw [wordsAt_run x.length i (by omega) (fun j hj => by
    rw [h3 j hj, List.getD_eq_getElem?_getD, List.getElem?_eq_getElem hj]
    exact hx.2 _ (List.getElem_mem hj))]
  rw [wordsAt_sp (by omega) (by omega), if_pos (by omega), extract_eq s i x _ h']
  rw [show i + x.length + 1 = s.size + 1 by omega, wordsAt_end]
theorem at_space {s : ByteArray} {i : Nat} {acc : List ByteArray} {r : List UInt8} (h : s.data.toList.drop i = 32 :: r) : wordsAt s i i acc = wordsAt s (i + 1) (i + 1) acc ∧ s.data.toList.drop (i + 1) = r := by
  obtain ⟨g1, g2, g3⟩ := drop_get h
  have hs := size_eq s
  refine ⟨?_, g3⟩
  rw [wordsAt_sp (by omega) (by rw [g2]; rintro ⟨_, hh⟩; exact hh (by decide)), if_neg (by omega)]
theorem at_end {s : ByteArray} {i : Nat} {acc : List ByteArray} (hi : i ≤ s.size) (h : s.data.toList.drop i = []) : wordsAt s i i acc = acc := by
  have hs := size_eq s
  have := congrArg List.length h
  simp only [List.length_drop, List.length_nil] at this
  rw [wordsAt_sp hi (by omega), if_neg (by omega), show i + 1 = s.size + 1 by omega, wordsAt_end]
/-- The text: its words, one space between two. -/
def flat (x : List UInt8) (r : List (List UInt8)) : List UInt8 := x ++ r.flatMap fun y => 32 :: y
theorem words_flat (s : ByteArray) (e : List UInt8) (he : e = [] ∨ e = [32]) : ∀ (r : List (List UInt8)) (x : List UInt8) (i : Nat) (acc : List ByteArray), (∀ y ∈ x :: r, Nice y) → s.data.toList.drop i = flat x r ++ e →
    wordsAt s i i acc = acc ++ (x :: r).map fun y => ⟨y.toArray⟩
  | [], x, i, acc, hn, h => by
    have hx := hn x (by simp)
    unfold flat at h
    rw [List.flatMap_nil, List.append_nil] at h
    rcases he with rfl | rfl
    · rw [List.append_nil] at h
      exact at_last hx h
    · obtain ⟨h1, h2⟩ := at_word (acc := acc) hx h
      rw [h1]
      have hs := size_eq s
      have hl := congrArg List.length h
      simp only [List.length_drop, List.length_append, List.length_singleton] at hl
      rw [at_end (by omega) h2]
      rfl
  | y :: r, x, i, acc, hn, h => by
    have hx := hn x (by simp)
    have e1 : flat x (y :: r) ++ e = x ++ 32 :: (flat y r ++ e) := by
      unfold flat
      rw [List.flatMap_cons]
      simp
    rw [e1] at h
    obtain ⟨h1, h2⟩ := at_word (acc := acc) hx h
    rw [h1, words_flat s e he r y _ _ (fun z hz => hn z (by simp at hz ⊢; exact .inr hz)) h2]
    simp
theorem words_plain (x : List UInt8) (r : List (List UInt8)) (hn : ∀ y ∈ x :: r, Nice y) : words ⟨(flat x r).toArray⟩ = (x :: r).map fun y => ⟨y.toArray⟩ := by
  rw [← wordsAt_start, words_flat _ [] (.inl rfl) r x 0 [] hn (by simp)]
  rfl
theorem words_around (x : List UInt8) (r : List (List UInt8)) (hn : ∀ y ∈ x :: r, Nice y) : words ⟨(32 :: 32 :: flat x r ++ [32]).toArray⟩ = (x :: r).map fun y => ⟨y.toArray⟩ := by
  rw [← wordsAt_start]
  have h0 : (⟨(32 :: 32 :: flat x r ++ [32]).toArray⟩ : ByteArray).data.toList.drop 0 = 32 :: 32 :: (flat x r ++ [32]) := by simp
  obtain ⟨a1, a2⟩ := at_space (acc := []) h0
  obtain ⟨b1, b2⟩ := at_space (acc := []) a2
  rw [a1, b1, words_flat _ [32] (.inr rfl) r x _ [] hn b2]
  rfl

/-! ### Reading what is written. -/
theorem name_nice (k : Nat) (hk : k < 18) (i : Int) (hi : k = 3 → 0 ≤ i ∧ i < 22) : Nice (nameV k i).data.toList := by
  have a1 : ∀ n : Fin 22, (fnm n.val).data.toList ≠ [] ∧ ∀ c ∈ (fnm n.val).data.toList, c.toNat ≠ 32 := by decide
  have a2 : ∀ k : Fin 18, k.val ≠ 3 → (opm k.val).data.toList ≠ [] ∧ ∀ c ∈ (opm k.val).data.toList, c.toNat ≠ 32 := by decide
  unfold nameV
  split
  · rename_i h
    obtain ⟨h0, h1⟩ := hi h
    exact a1 ⟨i.toNat, by omega⟩
  · rename_i h
    exact a2 ⟨k, hk⟩ h
theorem oper_nice (l : UInt8) (x : Int) : Nice (operB l x).data.toList := by
  have e : (operB l x).data.toList = operL l x := by unfold operB; simp
  rw [e]
  unfold operL
  split
  · exact ⟨itoa_ne x, itoa_no_space x⟩
  · refine ⟨by simp, fun c hc => ?_⟩
    rcases List.mem_cons.1 hc with rfl | hc
    · decide
    · exact itoa_no_space x c hc
theorem named_name (k : Nat) (hk : k < 18) (i : Int) (hi : k = 3 → 0 ≤ i ∧ i < 22) : named (nameV k i).data.toList = some (k, if k = 3 then i else 0) := by
  have a1 : ∀ n : Fin 22, named (fnm n.val).data.toList = some (3, (n.val : Int)) := by decide
  have a2 : ∀ k : Fin 18, k.val ≠ 3 → named (opm k.val).data.toList = some (k.val, 0) := by decide
  unfold nameV
  split
  · rename_i h
    obtain ⟨h0, h1⟩ := hi h
    have := a1 ⟨i.toNat, by omega⟩
    simp only at this
    rw [this, h]
    congr 2
    omega
  · rename_i h
    exact a2 ⟨k, hk⟩ h
theorem oper_reads (l : UInt8) (x : Int) (hi : InInt x) (hr : l ≠ 110 → 0 ≤ x ∧ x < 8) : operOf l (operB l x).data.toList = some x := by
  have e : (operB l x).data.toList = operL l x := by unfold operB; simp
  rw [e]
  unfold operL operOf
  split
  · exact num_itoa x hi
  · rename_i h
    exact reg_itoa x (hr h).1 (hr h).2

theorem opers_read (a b c i : Int) (ha : InInt a) (hb : InInt b) (hc : InInt c) (hi : InInt i) : ∀ (L : List UInt8) (q : Fields), (∀ l ∈ L, l ≠ 110 → 0 ≤ fldI a b c i l ∧ fldI a b c i l < 8) →
    opers L (L.map fun l => (operB l (fldI a b c i l)).data.toList) q = some (L.foldl (fun q l => setF l (fldI a b c i l) q) q)
  | [], q, _ => rfl
  | l :: L, q, h => by
    rw [List.map_cons, opers, oper_reads l _ (fldI_in ha hb hc hi l) (h l (by simp)), Option.bind_some, opers_read a b c i ha hb hc hi L _ (fun m hm => h m (by simp [hm]))]
    rfl
theorem fit_parts {k : Nat} (hk : k < 18) {a b c i : Int} (h : chk k a b c i = 0) : (loI k ≤ i ∧ i ≤ hiI k) ∧ pass (letters k) a b c = true ∧ zap 97 (letters k) a = 0 ∧ zap 98 (letters k) b = 0 ∧ zap 99 (letters k) c = 0 := by
  rw [chk_in k hk] at h
  unfold chkV at h
  split at h
  · rename_i hf
    unfold fit at hf
    simp only [Bool.and_eq_true, decide_eq_true_eq, beq_iff_eq] at hf
    exact ⟨hf.1, hf.2.1, hf.2.2.1, hf.2.2.2.1, hf.2.2.2.2⟩
  · cases h
theorem pass_reg {T : List UInt8} {a b c i : Int} (h : pass T a b c = true) (l : UInt8) (hl : l ∈ T) (h4 : l = 97 ∨ l = 98 ∨ l = 99 ∨ l = 110) (hn : l ≠ 110) : 0 ≤ fldI a b c i l ∧ fldI a b c i l < 8 := by
  unfold pass at h
  have := List.all_eq_true.1 h l hl
  rcases h4 with rfl | rfl | rfl | rfl
  · simp only [if_true] at this
    exact of_decide_eq_true this
  · simp only [show ¬ ((98 : UInt8) = 97) by decide, if_true, if_false] at this
    exact of_decide_eq_true this
  · simp only [show ¬ ((99 : UInt8) = 97) by decide, show ¬ ((99 : UInt8) = 98) by decide, if_true, if_false] at this
    exact of_decide_eq_true this
  · exact absurd rfl hn
theorem letter_kind (k : Nat) (hk : k < 18) : ∀ l ∈ letters k, l = 97 ∨ l = 98 ∨ l = 99 ∨ l = 110 := by
  have all : ∀ k : Fin 18, ∀ l ∈ letters k.val, l = 97 ∨ l = 98 ∨ l = 99 ∨ l = 110 := by decide
  exact all ⟨k, hk⟩
theorem imm_zero (k : Nat) (hk : k < 18) (h : 110 ∉ letters k) (h3 : k ≠ 3) : loI k = 0 ∧ hiI k = 0 := by
  have all : ∀ k : Fin 18, 110 ∉ letters k.val → k.val ≠ 3 → loI k.val = 0 ∧ hiI k.val = 0 := by decide
  exact all ⟨k, hk⟩ h h3
theorem fold_fields {k : Nat} (hk : k < 18) {a b c i : Int} (h : chk k a b c i = 0) : (letters k).foldl (fun q l => setF l (fldI a b c i l) q) ⟨0, 0, 0, if k = 3 then i else 0⟩ = ⟨a, b, c, i⟩ := by
  obtain ⟨⟨h0, h1⟩, _, za, zb, zc⟩ := fit_parts hk h
  have ha : 97 ∉ letters k → a = 0 := fun hh => by rwa [zap_fresh _ _ _ hh] at za
  have hb : 98 ∉ letters k → b = 0 := fun hh => by rwa [zap_fresh _ _ _ hh] at zb
  have hc : 99 ∉ letters k → c = 0 := fun hh => by rwa [zap_fresh _ _ _ hh] at zc
  have hi : 110 ∉ letters k → k ≠ 3 → i = 0 := fun hh h3 => by
    have := imm_zero k hk hh h3
    omega
  clear za zb zc h0 h1 h
  rcases op_cases hk with rfl | rfl | rfl | rfl | rfl | rfl | rfl | rfl | rfl | rfl | rfl | rfl | rfl | rfl | rfl | rfl | rfl | rfl
  all_goals
    try (have e := ha (by decide); subst e)
    try (have e := hb (by decide); subst e)
    try (have e := hc (by decide); subst e)
    try (have e := hi (by decide) (by decide); subst e)
    rfl
theorem imm_fn {k : Nat} (hk : k < 18) {a b c i : Int} (h : chk k a b c i = 0) : k = 3 → 0 ≤ i ∧ i < 22 := by
  rintro rfl
  have := (fit_parts hk h).1
  have e0 : loI 3 = 0 := rfl
  have e1 : hiI 3 = 21 := rfl
  omega
theorem read_words {k : Nat} (hk : k < 18) {a b c i : Int} (ha : InInt a) (hb : InInt b) (hc : InInt c) (hi : InInt i) (h : chk k a b c i = 0) :
    readV ((nameV k i).data.toList :: (letters k).map fun l => (operB l (fldI a b c i l)).data.toList) = some (k, ⟨a, b, c, i⟩) := by
  have hp := (fit_parts hk h).2.1
  unfold readV
  simp only
  rw [named_name k hk i (imm_fn hk h), Option.bind_some]
  simp only
  rw [if_pos (by rw [List.length_map]), opers_read a b c i ha hb hc hi _ _ (fun l hl hn => pass_reg hp l hl (letter_kind k hk l hl) hn), fold_fields hk h]
  rfl
theorem list_back (ws : List ByteArray) : ((ws.map (·.data.toList)).map fun y => (⟨y.toArray⟩ : ByteArray)) = ws := by
  rw [List.map_map]
  have : ((fun y : List UInt8 => (⟨y.toArray⟩ : ByteArray)) ∘ fun x : ByteArray => x.data.toList) = id := by
    funext x
    exact (ba_eq x).symm
  rw [this, List.map_id]
theorem text_of {k : Nat} {a b c i : Int} (h : chk k a b c i = 0) : formatV k a b c i = ⟨(flat (nameV k i).data.toList ((letters k).map fun l => (operB l (fldI a b c i l)).data.toList)).toArray⟩ := by
  unfold formatV
  rw [if_pos h, Int.toNat_natCast]
  unfold wordsV
  rw [join_flat]
  unfold flat
  rw [List.flatMap_map, List.flatMap_map]
theorem nice_words {k : Nat} (hk : k < 18) {a b c i : Int} (h : chk k a b c i = 0) : ∀ y ∈ (nameV k i).data.toList :: (letters k).map fun l => (operB l (fldI a b c i l)).data.toList, Nice y := by
  intro y hy
  rcases List.mem_cons.1 hy with rfl | hy
  · exact name_nice k hk i (imm_fn hk h)
  · obtain ⟨l, _, rfl⟩ := List.mem_map.1 hy
    exact oper_nice l _
theorem bts_of (L : List (List UInt8)) : (L.map fun y => (⟨y.toArray⟩ : ByteArray)).map bts = L := by
  rw [List.map_map]
  have : (bts ∘ fun y : List UInt8 => (⟨y.toArray⟩ : ByteArray)) = id := by
    funext x
    exact bytes_mk x
  rw [this, List.map_id]
theorem parse_at {k : Nat} (hk : k < 18) {a b c i : Int} (ha : InInt a) (hb : InInt b) (hc : InInt c) (hi : InInt i) (h : chk k a b c i = 0) (s : ByteArray) (hs : s.size ≤ 200)
    (hw : words s = ((nameV k i).data.toList :: (letters k).map fun l => (operB l (fldI a b c i l)).data.toList).map fun y => (⟨y.toArray⟩ : ByteArray)) : parseQ s = some (k, ⟨a, b, c, i⟩) ∧ parseE s = 0 := by
  have hr : readV ((words s).map bts) = some (k, ⟨a, b, c, i⟩) := by
    rw [hw, bts_of]
    exact read_words hk ha hb hc hi h
  constructor
  · unfold parseQ
    rw [if_neg (by omega), hr, Option.bind_some]
    exact if_pos h
  · unfold parseE
    rw [if_neg (by omega), hr]
    exact h
theorem text_size {k : Nat} (hk : k < 18) {a b c i : Int} (ha : InInt a) (hb : InInt b) (hc : InInt c) (hi : InInt i) (h : chk k a b c i = 0) : (formatV k a b c i).size ≤ 92 := by
  have := format_len k hk a b c i ha hb hc hi
  unfold formatV
  rw [if_pos h, Int.toNat_natCast]
  unfold joinB
  rw [mk_size]
  exact this
/-- The text of a valid instruction is read as this instruction. -/
theorem parse_plain {k : Nat} (hk : k < 18) {a b c i : Int} (ha : InInt a) (hb : InInt b) (hc : InInt c) (hi : InInt i) (h : chk k a b c i = 0) : parseQ (formatV k a b c i) = some (k, ⟨a, b, c, i⟩) ∧ parseE (formatV k a b c i) = 0 := by
  refine parse_at hk ha hb hc hi h _ ?_ ?_
  · have := text_size hk ha hb hc hi h; omega
  · rw [text_of h]
    exact words_plain _ _ (nice_words hk h)
/-- Also with two spaces ahead of it and one behind it. -/
theorem parse_around {k : Nat} (hk : k < 18) {a b c i : Int} (ha : InInt a) (hb : InInt b) (hc : InInt c) (hi : InInt i) (h : chk k a b c i = 0) : parseQ (⟨#[32, 32]⟩ ++ formatV k a b c i ++ ⟨#[32]⟩) = some (k, ⟨a, b, c, i⟩) ∧ parseE (⟨#[32, 32]⟩ ++ formatV k a b c i ++ ⟨#[32]⟩) = 0 := by
  refine parse_at hk ha hb hc hi h _ ?_ ?_
  · have := text_size hk ha hb hc hi h
    rw [ByteArray.size_append, ByteArray.size_append]
    have e1 : (⟨#[32, 32]⟩ : ByteArray).size = 2 := rfl
    have e2 : (⟨#[32]⟩ : ByteArray).size = 1 := rfl
    omega
  · rw [text_of h]
    have e := words_around _ _ (nice_words hk h)
    rw [← e]
    congr 1
end Go.Proofs.YtcplhochgngedaaGreatDoor.IsaR
