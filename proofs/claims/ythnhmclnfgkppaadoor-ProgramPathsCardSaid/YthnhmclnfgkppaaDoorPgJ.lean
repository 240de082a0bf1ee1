/-
  A path through a program and what Longest and Needs tell (plain mathematics).
-/
import Derived.Test.YthnhmclnfgkppaaDoorPgK
namespace Go.Proofs.YthnhmclnfgkppaaDoor.PgJ
open Go.RowKit
open IsaE IsaS IsaA IsaB IsaF PrgS PrgC PgS PgT PgU PgF PgV PgW PgX PgN PgK
set_option linter.unusedVariables false

/-- A transaction that begins at k, its commit at cm. -/
structure TX (ps : List I5) (k : Nat) (cm : Int) : Prop where
  mem : ((k : Int), cm) ∈ txV ps
  lt : (k : Int) < cm
  le : cm < ps.length
  op : ∀ x, ps[k]? = some x → x.op = 7
theorem fol_le {ps : List I5} (hv : Valid ps) {k at_ : Nat} {cm : Int} (ht : TX ps k cm) {x : I5} (hx : ps[at_]? = some x) (h1 : k < at_) (h2 : (at_ : Int) < cm) (h9 : x.op ≠ 9) {y : Int} (hy : y ∈ folV ps at_ x) : y ≤ cm := by
  have hk : at_ < ps.length := (List.getElem?_eq_some_iff.1 hx).1
  have ha : aroundV ps at_ = some ((k : Int), cm) := around_eq ht.mem (by show (k : Int) < at_; omega) (by show (at_ : Int) ≤ cm; omega) hk
  have hsk : (at_ : Int) + 1 + skV x ≤ cm := by
    cases hs : skB x with
    | false =>
      have : skV x = 0 := by unfold skV skipsV; rw [show skipsB x.op x.a x.b x.c x.i = false from hs]; rfl
      omega
    | true =>
      have hp := hv.perm hx hs
      unfold permV at hp
      rw [ha] at hp
      exact of_decide_eq_true hp
  unfold folV at hy
  rw [if_neg h9] at hy
  split at hy
  · simp at hy; omega
  · simp at hy; omega
/-- What has been counted of the transaction at k, at position at_; ins: the path is within the transaction. -/
def JQ (ps : List I5) (wt : I5 → Int) (k cm : Int) (at_ : Nat) (ins : Bool) (r : Int) : Prop :=
  (k = -1 → ins = false ∧ r = 0) ∧ ∀ kn : Nat, k = kn → (ins = true → kn < at_ ∧ (at_ : Int) ≤ cm) ∧ ∀ R1, PgV.Rest ps wt kn cm R1 → (ins = true → r + R1 at_ ≤ R1 kn) ∧ (ins = false → r ≤ R1 kn ∧ (at_ ≤ kn → r = 0))
theorem jq_start {ps : List I5} {wt : I5 → Int} {k cm : Int} (hcm : cm < ps.length) (hw : ∀ x ∈ ps, 0 ≤ wt x) : JQ ps wt k cm 0 false 0 :=
  ⟨fun _ => ⟨rfl, rfl⟩, fun kn _ => ⟨fun h => (by cases h), fun R1 h => ⟨fun h => (by cases h), fun _ => ⟨h.nn hcm hw kn, fun _ => rfl⟩⟩⟩⟩
theorem jq_end {ps : List I5} {wt : I5 → Int} {k cm : Int} {at_ : Nat} {ins : Bool} {r : Int} (hcm : cm < ps.length) (hw : ∀ x ∈ ps, 0 ≤ wt x) (h : JQ ps wt k cm at_ ins r) {kn : Nat} (hk : k = kn) {R1 : Nat → Int} (hR : PgV.Rest ps wt kn cm R1) : r ≤ R1 kn := by
  obtain ⟨h1, h2⟩ := (h.2 kn hk).2 R1 hR
  cases ins with
  | true => have := h1 rfl; have := hR.nn hcm hw at_; omega
  | false => exact (h2 rfl).1
theorem jq_step {ps : List I5} {wt : I5 → Int} {k cm : Int} {at_ : Nat} {ins : Bool} {r : Int} {x : I5} {y : Nat} {c r' : Int} {in' ins' : Bool} (hv : Valid ps) (hcm : cm < ps.length) (hw : ∀ x ∈ ps, 0 ≤ wt x) (hT : ∀ kn : Nat, k = kn → TX ps kn cm)
    (hx : ps[at_]? = some x) (h : JQ ps wt k cm at_ ins r) (hy : (y : Int) ∈ folV ps at_ x) (hin : in' = true ↔ (ins = true ∧ x.op ≠ 8) ∨ (at_ : Int) = k) (hins : ins' = true ↔ in' = true ∧ x.op ≠ 9) (hc : c ≤ wt x) (hr : r' = if in' = true then r + c else r) : JQ ps wt k cm y ins' r' := by
  obtain ⟨hf1, hf2⟩ := hv.fol hx y hy
  refine ⟨fun hk => ?_, fun kn hk => ?_⟩
  · obtain ⟨e1, e2⟩ := h.1 hk
    have hn : in' = false := by
      cases hc : in' with
      | false => rfl
      | true => rcases hin.1 hc with ⟨h1, _⟩ | h1
                · rw [e1] at h1; cases h1
                · omega
    refine ⟨?_, by rw [hr, hn, e2]; rfl⟩
    cases hc : ins' with
    | false => rfl
    | true => have := (hins.1 hc).1; rw [hn] at this; cases this
  · obtain ⟨hp, hR⟩ := h.2 kn hk
    have ht := hT kn hk
    have hop8 : ∀ z, (at_ : Int) = cm → ps[at_]? = some z → z.op = 8 := fun z hz hzz => by
      obtain ⟨j, w, h1, h2, h3⟩ := tx_commit8 ht.mem ht.le
      have h3' : cm = (j : Int) := h3
      obtain rfl : j = at_ := by omega
      rw [hzz] at h1
      cases h1
      exact h2
    -- where the path may be, if it is within
    have hpos : in' = true → kn ≤ at_ ∧ (at_ : Int) < cm := fun hi => by
      rcases hin.1 hi with ⟨h1, h8⟩ | h1
      · obtain ⟨h2, h3⟩ := hp h1
        refine ⟨by omega, ?_⟩
        by_cases e : (at_ : Int) = cm
        · exact absurd (hop8 x e hx) h8
        · omega
      · have := ht.lt; omega
    refine ⟨fun hi' => ?_, fun R1 h1 => ?_⟩
    · obtain ⟨hi, h9⟩ := hins.1 hi'
      obtain ⟨p1, p2⟩ := hpos hi
      refine ⟨by omega, ?_⟩
      by_cases e : at_ = kn
      · subst e
        have h7 := ht.op x hx
        unfold folV at hy
        rw [if_neg h9, if_neg (by omega), (skI_zero (x := x) (by omega)).1] at hy
        simp at hy
        omega
      · exact fol_le hv ht hx (by omega) p2 h9 hy
    · obtain ⟨r1, r2⟩ := hR R1 h1
      have hnn := h1.nn hcm hw
      by_cases hi : in' = true
      · obtain ⟨p1, p2⟩ := hpos hi
        have hge := h1.ge (by omega) (by omega) hx hy
        rw [Int.toNat_natCast] at hge
        have hsum : r' + R1 y ≤ R1 kn := by
          rw [hr, if_pos hi]
          rcases hin.1 hi with ⟨h2, _⟩ | h2
          · have := r1 h2; omega
          · obtain rfl : at_ = kn := by omega
            cases hb : ins with
            | true => have := (hp hb).1; omega
            | false => have := (r2 hb).2 (Nat.le_refl _); omega
        refine ⟨fun _ => hsum, fun _ => ⟨by have := hnn y; omega, fun hle => by omega⟩⟩
      · have hr' : r' = r := by rw [hr, if_neg hi]
        refine ⟨fun hi' => absurd (hins.1 hi').1 hi, fun _ => ?_⟩
        rw [hr']
        cases hb : ins with
        | true => obtain ⟨q1, q2⟩ := hp hb
                  have := r1 hb
                  have := hnn at_
                  exact ⟨by omega, fun hle => by omega⟩
        | false => obtain ⟨q1, q2⟩ := r2 hb
                   refine ⟨q1, fun hle => q2 (by omega)⟩
/-- What holds at the head of each round of the walk. -/
def WI (ps : List I5) (k cm n r v : Int) (at_ : Nat) (ins : Bool) : Prop := (∀ R, PgV.Rest ps wOne 0 ((ps.length : Int) - 1) R → n + R at_ ≤ R 0) ∧ JQ ps wRd k cm at_ ins r ∧ JQ ps wWr k cm at_ ins v
theorem wi_start {ps : List I5} {k cm : Int} (hv : Valid ps) (hcm : cm < ps.length) : WI ps k cm 0 0 0 0 false :=
  ⟨fun R _ => by omega, jq_start hcm (nn_rd ps), jq_start hcm (nn_wr hv)⟩
theorem wi_step {ps : List I5} {k cm n r v : Int} {at_ : Nat} {ins : Bool} {x : I5} {y : Nat} {r' v' : Int} {in' ins' : Bool} (hv : Valid ps) (hcm : cm < ps.length) (hT : ∀ kn : Nat, k = kn → TX ps kn cm)
    (hx : ps[at_]? = some x) (h : WI ps k cm n r v at_ ins) (hy : (y : Int) ∈ folV ps at_ x) (hin : in' = true ↔ (ins = true ∧ x.op ≠ 8) ∨ (at_ : Int) = k) (hins : ins' = true ↔ in' = true ∧ x.op ≠ 9)
    (hr : r' = if in' = true then r + oneOf [10, 15] x else r) (hv' : v' = if in' = true then v + oneOf [11, 15] x else v) : WI ps k cm (n + 1) r' v' y ins' := by
  have hlt : at_ < ps.length := (List.getElem?_eq_some_iff.1 hx).1
  refine ⟨fun R hR => ?_, jq_step hv hcm (nn_rd ps) hT hx h.2.1 hy hin hins (Int.le_refl _) hr, jq_step hv hcm (nn_wr hv) hT hx h.2.2 hy hin hins ?_ hv'⟩
  · have h1 := h.1 R hR
    have h2 := hR.ge (by omega) (by omega) hx hy
    rw [Int.toNat_natCast] at h2
    unfold wOne at h2
    omega
  · unfold wWr
    by_cases h14 : x.op = 14
    · rw [if_pos h14, one_off (by simp; omega)]
      have := al_imm (hv.chk hx) h14
      have hi : x.i = 0 ∨ x.i = 1 ∨ x.i = 2 ∨ x.i = 3 := by omega
      rcases hi with e | e | e | e <;> rw [e] <;> decide
    · rw [if_neg h14]
      exact Int.le_refl _
theorem wi_end {ps : List I5} {k cm n r v : Int} {at_ : Nat} {ins : Bool} (hv : Valid ps) (h : WI ps k cm n r v at_ ins) : (∀ R, PgV.Rest ps wOne 0 ((ps.length : Int) - 1) R → n ≤ R 0) :=
  fun R hR => by
    have := h.1 R hR
    have := hR.nn (by omega) (fun _ _ => by unfold wOne; omega) at_
    omega
theorem skV_imm {x : I5} (hc : chkI x = 0) (h : x.op = 4 ∨ x.op = 5 ∨ x.op = 6) : skV x = x.i := by
  unfold skV skipsV
  have : skipsB x.op x.a x.b x.c x.i = true := by
    unfold skipsB
    rw [show chk x.op x.a x.b x.c x.i = 0 from hc]
    rcases h with h | h | h <;> simp [h]
  rw [if_pos this]
theorem fol_next {ps : List I5} {i : Nat} {x : I5} (h : ¬ (x.op = 4 ∨ x.op = 9)) (h0 : ¬ (x.op = 5 ∨ x.op = 6) → skV x = 0) : ((i + 1 : Nat) : Int) ∈ folV ps i x := by
  unfold folV
  rw [if_neg (by omega)]
  split
  · simp
  · rename_i h5
    rw [h0 h5]
    simp
theorem fol_next' {ps : List I5} {i : Nat} {x : I5} (h : x.op ≠ 4 ∧ x.op ≠ 9) : ((i + 1 : Nat) : Int) ∈ folV ps i x :=
  fol_next (by omega) fun h5 => (skI_zero (x := x) (by omega)).1
theorem fol_jump {ps : List I5} {i xi : Nat} {x : I5} (hc : chkI x = 0) (h : x.op = 4 ∨ x.op = 5 ∨ x.op = 6) (hxi : x.i = xi) : ((i + 1 + xi : Nat) : Int) ∈ folV ps i x := by
  have hs := skV_imm hc h
  unfold folV
  rw [if_neg (by omega), hs, hxi]
  split <;> simp
theorem fol_abort {ps : List I5} {i c : Nat} {x : I5} {b : Int} (h9 : x.op = 9) (ha : aroundV ps i = some (b, (c : Int))) : ((c + 1 : Nat) : Int) ∈ folV ps i x := by
  unfold folV
  rw [if_pos h9]
  unfold arEnd
  rw [ha]
  simp
end Go.Proofs.YthnhmclnfgkppaaDoor.PgJ
