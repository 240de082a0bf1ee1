/-
  Transactions of a program: behind a position (plain mathematics).
-/
import Derived.Test.YtcplhochgngedaaGreatDoorPrgG
namespace Go.Proofs.YtcplhochgngedaaGreatDoor.PrgL
open PrgS PrgI PrgG PrgC IsaE IsaB IsaA
set_option linter.unusedVariables false

/-- Behind t: a transaction that is open at t ends behind it. -/
theorem span_in (t : Int) (N : Nat) (hN : t < N) : ∀ (r : List I5) (j : Nat) (b : Int), 0 ≤ b → b ≤ t → t < j → (spanGo t N r j b).1 = b ∧ t + 1 ≤ (spanGo t N r j b).2 := by
  intro r
  induction r with
  | nil =>
    intro j b h0 h1 h2
    unfold spanGo
    rw [if_pos ⟨h0, h1, hN⟩]
    exact ⟨rfl, by show t + 1 ≤ (N : Int); omega⟩
  | cons x r ih =>
    intro j b h0 h1 h2
    unfold spanGo
    rw [if_neg (by omega)]
    split
    · rw [if_pos ⟨h1, by omega⟩]
      exact ⟨rfl, by show t + 1 ≤ (j : Int); omega⟩
    · exact ih (j + 1) b h0 h1 (by omega)
/-- Behind t: none is open, or one that begins behind t. -/
theorem span_out (t : Int) (N : Nat) : ∀ (r : List I5) (j : Nat) (b : Int), (b < 0 ∨ t < b) → t < j → (spanGo t N r j b).1 = -1 := by
  intro r
  induction r with
  | nil =>
    intro j b h0 h1
    unfold spanGo
    rw [if_neg (by omega)]
  | cons x r ih =>
    intro j b h0 h1
    unfold spanGo
    split
    · exact ih (j + 1) j (.inr h1) (by omega)
    · split
      · rw [if_neg (by omega)]
        exact ih (j + 1) (-1) (.inl (by omega)) (by omega)
      · exact ih (j + 1) b h0 (by omega)
theorem span_one (t : Int) (N : Nat) : ∀ (r : List I5) (j : Nat) (b : Int), 0 ≤ b → b ≤ t → t < j → (spanGo t N r j b).1 = b ∨ (spanGo t N r j b).1 = -1 := by
  intro r
  induction r with
  | nil =>
    intro j b h0 h1 h2
    unfold spanGo
    split
    · exact .inl rfl
    · exact .inr rfl
  | cons x r ih =>
    intro j b h0 h1 h2
    unfold spanGo
    rw [if_neg (by omega)]
    split
    · rw [if_pos ⟨h1, by omega⟩]
      exact .inl rfl
    · exact ih (j + 1) b h0 h1 (by omega)
/-- What lies just behind a position that is neither a begin nor a commit. -/
theorem span_next (t : Nat) (N : Nat) (hN : t < N) : ∀ (r : List I5) (j : Nat) (b : Int), j ≤ t → (∀ x, r[t - j]? = some x → x.op ≠ 7 ∧ x.op ≠ 8) → t - j < r.length → -1 ≤ b → b < j →
    (0 ≤ (spanGo t N r j b).1 → (t : Int) + 1 ≤ (spanGo t N r j b).2) ∧ ((spanGo t N r j b).1 < 0 → (spanGo (t + 1) N r j b).1 < 0 ∨ (spanGo (t + 1) N r j b).1 = t + 1) := by
  intro r
  induction r with
  | nil => intro j b h1 h2 h3 h4 h5; simp at h3
  | cons x r ih =>
    intro j b h1 h2 h3 h4 h5
    rcases Nat.lt_or_ge j t with hj | hj
    · have e : t - j = (t - (j + 1)) + 1 := by omega
      have h2' : ∀ y, r[t - (j + 1)]? = some y → y.op ≠ 7 ∧ y.op ≠ 8 := fun y hy => h2 y (by rw [e]; exact hy)
      have h3' : t - (j + 1) < r.length := by simp at h3; omega
      unfold spanGo
      split
      · exact ih (j + 1) j (by omega) h2' h3' (by omega) (by omega)
      · split
        · rw [if_neg (by omega), if_neg (by omega)]
          exact ih (j + 1) (-1) (by omega) h2' h3' (by omega) (by omega)
        · exact ih (j + 1) b (by omega) h2' h3' h4 (by omega)
    · obtain rfl : j = t := by omega
      have hx := h2 x (by simp)
      unfold spanGo
      rw [if_neg (fun h => hx.1 h.2), if_neg (fun h => hx.2 h.2), if_neg (fun h => hx.1 h.2), if_neg (fun h => hx.2 h.2)]
      by_cases hb : 0 ≤ b
      · obtain ⟨e1, e2⟩ := span_in j N (by omega) r (j + 1) b hb (by omega) (by omega)
        exact ⟨fun _ => e2, fun h => by omega⟩
      · have e1 := span_out j N r (j + 1) b (.inl (by omega)) (by omega)
        refine ⟨fun h => by omega, fun _ => ?_⟩
        cases r with
        | nil =>
          left
          unfold spanGo
          rw [if_neg (by omega)]
          decide
        | cons y r =>
          unfold spanGo
          split
          · rcases span_one ((j : Int) + 1) N r (j + 1 + 1) ((j + 1 : Nat) : Int) (by omega) (by omega) (by omega) with h | h
            · right
              rw [h]
              omega
            · left
              rw [h]
              decide
          · rw [if_neg (fun h => hb h.1)]
            left
            have := span_out ((j : Int) + 1) N r (j + 1 + 1) b (.inl (by omega)) (by omega)
            omega
/-- The position just behind one that is neither a begin nor a commit may be a jump's target. -/
theorem reaches_next (ps : List I5) (t : Nat) (x : I5) (hx : ps[t]? = some x) (h7 : x.op ≠ 7) (h8 : x.op ≠ 8) : reachesV ps t (t + 1) = true := by
  have ht := (List.getElem?_eq_some_iff.1 hx).1
  obtain ⟨h1, h2⟩ := span_next t ps.length ht ps 0 (-1) (Nat.zero_le _) (fun y hy => by
    rw [Nat.sub_zero, hx] at hy
    injection hy with hy
    subst hy
    exact ⟨h7, h8⟩) (by omega) (by omega) (by omega)
  unfold reachesV spanV
  rw [if_neg (by omega)]
  split
  · rename_i h
    exact decide_eq_true (h1 h)
  · rename_i h
    rcases h2 (by omega) with h3 | h3
    · rw [decide_eq_true h3]; rfl
    · rw [decide_eq_true h3, Bool.or_true]
theorem err_none {qs : List I5} {k : Nat} {x : I5} {oI : Int} {op : Nat} {o : Bool} (h18 : op < 18) (hm : Made op x) (hf : Fits op o) (ho : 0 ≤ oI ↔ o = true) (hx : qs[k]? = some x) : errAt qs k x oI = 0 := by
  obtain ⟨e, hok, hc, hj⟩ := hm
  have h7 : x.op = 7 → ¬ 0 ≤ oI := fun h h0 => by
    have : op = 7 := by omega
    subst this
    have := hf.2 (by decide)
    rw [ho.1 h0] at this
    cases this
  have h8 : x.op = 8 → 0 ≤ oI := fun h => by
    have : op = 8 := by omega
    subst this
    exact ho.2 (hf.1 (by decide))
  have hpl : plI x = opPlaces.getD op 0 := by
    unfold plI placeV
    rw [if_pos (show chk x.op x.a x.b x.c x.i = 0 from hc), e, Int.toNat_natCast]
  have hfit := hf
  unfold Fits at hfit
  rw [Int.toNat_natCast] at hfit
  unfold errAt
  rw [if_neg (by rw [hc]; decide), if_neg, if_neg, if_neg]
  · rintro ⟨h1, h2⟩
    have hop : x.op = 4 ∨ x.op = 5 ∨ x.op = 6 := by
      unfold skB skipsB at h1
      simp only [Bool.and_eq_true, Bool.or_eq_true, decide_eq_true_eq] at h1
      exact h1.2
    have hi : skV x = 0 := by
      unfold skV skipsV
      split
      · exact hj (by omega)
      · rfl
    rw [hi, Int.add_zero, reaches_next qs k x hx (by omega) (by omega)] at h2
    cases h2
  · rw [hpl]
    unfold placeB
    intro h
    simp only [Bool.or_eq_true, Bool.and_eq_true, decide_eq_true_eq] at h
    rcases h with ⟨h1, h2⟩ | ⟨h1, h2⟩
    · have := ho.2 (hfit.1 h1); omega
    · have h3 := hfit.2 h1
      rw [ho.1 h2] at h3
      cases h3
  · unfold nestB
    intro h
    simp only [Bool.or_eq_true, Bool.and_eq_true, decide_eq_true_eq] at h
    rcases h with ⟨h1, h2⟩ | ⟨h1, h2⟩
    · exact h7 h1 h2
    · have := h8 h1; omega
/-- The reference's Check goes through a made list. -/
theorem gen_chk {ps : List I5} {o : Bool} (h : Gen ps o) : ∀ (qs rest : List I5), qs = ps ++ rest → ∃ oI : Int, (0 ≤ oI ↔ o = true) ∧ chkGo qs qs 0 (-1) = chkGo qs rest ps.length oI := by
  induction h with
  | nil =>
    intro qs rest hq
    exact ⟨-1, by simp, by rw [hq]; rfl⟩
  | snoc hg h18 hm hf ih =>
    rename_i ps o x op
    intro qs rest hq
    obtain ⟨oI, h1, h2⟩ := ih qs (x :: rest) (by rw [hq]; simp)
    have hx : qs[ps.length]? = some x := by
      rw [hq, List.append_assoc, List.getElem?_append_right (Nat.le_refl _)]
      simp
    have he := err_none h18 hm hf h1 hx
    refine ⟨nextO ps.length x oI, ?_, ?_⟩
    · unfold nextO nxt
      rw [hm.1]
      split
      · simp
      · split
        · simp
        · exact h1
    · rw [h2, chkGo, if_neg (by rw [he]; decide)]
      simp
/-- A made list without an open transaction is valid. -/
theorem gen_valid {ps : List I5} (h : Gen ps false) (hl : ps.length ≤ 64) : refChk ps = (0, 0) := by
  obtain ⟨oI, h1, h2⟩ := gen_chk h ps [] (by simp)
  unfold refChk
  rw [if_neg (by omega), h2, chkGo, if_neg]
  intro h3
  have := h1.1 h3
  cases this
theorem chkGo_zero {ps : List I5} : ∀ (r : List I5) (k : Nat) (o : Int), (chkGo ps r k o).2 = 0 → chkGo ps r k o = (0, 0) := by
  intro r
  induction r with
  | nil =>
    intro k o h
    unfold chkGo at h ⊢
    split at h
    · cases h
    · rename_i h1
      rw [if_neg h1]
  | cons x r ih =>
    intro k o h
    unfold chkGo at h ⊢
    split at h
    · rename_i h1
      exact absurd h h1
    · rename_i h1
      rw [if_neg h1]
      exact ih _ _ h
/-- No error, no position. -/
theorem refChk_zero {ps : List I5} (h : (refChk ps).2 = 0) : refChk ps = (0, 0) := by
  unfold refChk at h ⊢
  split at h
  · cases h
  · rename_i h1
    rw [if_neg h1]
    exact chkGo_zero _ _ _ h
end Go.Proofs.YtcplhochgngedaaGreatDoor.PrgL
