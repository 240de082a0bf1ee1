/-
  Check of a program, in plain words: what the program looks at (transactions) and what the reference looks at (spans) are the same.
-/
import Derived.Test.YthnhmclnfgkppaaDoorPgS
namespace Go.Proofs.YthnhmclnfgkppaaDoor.PgT
open Go.RowKit
open PrgS PgS
set_option linter.unusedVariables false

theorem txGo_cases {P : List (Int × Int) → Prop} {n k b : Int} {op : Bool} {x : I5} {r : List I5} (h1 : op = false → x.op = 7 → P (txGo n r (k + 1) true k)) (h2 : op = true → x.op = 8 → P ((b, k) :: txGo n r (k + 1) false b))
    (h3 : ¬ (x.op = 7 ∧ op = false) → ¬ (x.op = 8 ∧ op = true) → P (txGo n r (k + 1) op b)) : P (txGo n (x :: r) k op b) := by
  by_cases a : x.op = 7 ∧ op = false
  · obtain ⟨a1, rfl⟩ := a
    rw [txGo_begin a1]
    exact h1 rfl a1
  · by_cases c : x.op = 8 ∧ op = true
    · obtain ⟨c1, rfl⟩ := c
      rw [txGo_commit c1]
      exact h2 rfl c1
    · rw [txGo_other a c]
      exact h3 a c
theorem txGo_lo {n : Int} (r : List I5) : ∀ (k : Int) (op : Bool) (b : Int), ∀ t ∈ txGo n r k op b, (op = true ∧ t.1 = b) ∨ k ≤ t.1 := by
  induction r with
  | nil => intro k op b t h; cases op <;> simp [txGo] at h; subst h; exact .inl ⟨rfl, rfl⟩
  | cons x r ih =>
    intro k op b
    refine txGo_cases (P := fun l => ∀ t ∈ l, (op = true ∧ t.1 = b) ∨ k ≤ t.1) ?_ ?_ ?_
    · intro _ _ t ht
      rcases ih _ _ _ t ht with ⟨_, h⟩ | h
      · exact .inr (by omega)
      · exact .inr (by omega)
    · intro ho _ t ht
      rcases List.mem_cons.1 ht with rfl | ht
      · exact .inl ⟨ho, rfl⟩
      · rcases ih _ _ _ t ht with ⟨h, _⟩ | h
        · cases h
        · exact .inr (by omega)
    · intro _ _ t ht
      rcases ih _ _ _ t ht with h | h
      · exact .inl h
      · exact .inr (by omega)
theorem txGo_hi {n : Int} (r : List I5) : ∀ (k : Int) (op : Bool) (b : Int), k + r.length = n → ∀ t ∈ txGo n r k op b, k ≤ t.2 ∧ t.2 ≤ n := by
  induction r with
  | nil => intro k op b hk t h; cases op <;> simp [txGo] at h; subst h; simp at hk; exact ⟨by simp only; omega, Int.le_refl _⟩
  | cons x r ih =>
    intro k op b hk
    simp only [List.length_cons] at hk
    refine txGo_cases (P := fun l => ∀ t ∈ l, k ≤ t.2 ∧ t.2 ≤ n) ?_ ?_ ?_
    · intro _ _ t ht
      have := ih (k + 1) _ _ (by omega) t ht
      omega
    · intro ho _ t ht
      rcases List.mem_cons.1 ht with rfl | ht
      · exact ⟨Int.le_refl _, by simp only; omega⟩
      · have := ih (k + 1) _ _ (by omega) t ht
        omega
    · intro _ _ t ht
      have := ih (k + 1) _ _ (by omega) t ht
      omega
theorem txGo_begin7 {n : Int} (r : List I5) : ∀ (k : Int) (op : Bool) (b : Int), ∀ t ∈ txGo n r k op b, (op = true ∧ t.1 = b) ∨ ∃ (j : Nat) (x : I5), r[j]? = some x ∧ x.op = 7 ∧ t.1 = k + j := by
  induction r with
  | nil => intro k op b t h; cases op <;> simp [txGo] at h; subst h; exact .inl ⟨rfl, rfl⟩
  | cons x r ih =>
    intro k op b
    refine txGo_cases (P := fun l => ∀ t ∈ l, (op = true ∧ t.1 = b) ∨ ∃ (j : Nat) (y : I5), (x :: r)[j]? = some y ∧ y.op = 7 ∧ t.1 = k + j) ?_ ?_ ?_
    · intro _ h7 t ht
      rcases ih _ _ _ t ht with ⟨_, h⟩ | ⟨j, y, h1, h2, h3⟩
      · exact .inr ⟨0, x, rfl, h7, by omega⟩
      · exact .inr ⟨j + 1, y, by simpa using h1, h2, by omega⟩
    · intro ho _ t ht
      rcases List.mem_cons.1 ht with rfl | ht
      · exact .inl ⟨ho, rfl⟩
      · rcases ih _ _ _ t ht with ⟨h, _⟩ | ⟨j, y, h1, h2, h3⟩
        · cases h
        · exact .inr ⟨j + 1, y, by simpa using h1, h2, by omega⟩
    · intro _ _ t ht
      rcases ih _ _ _ t ht with h | ⟨j, y, h1, h2, h3⟩
      · exact .inl h
      · exact .inr ⟨j + 1, y, by simpa using h1, h2, by omega⟩
theorem txGo_sorted {n : Int} (r : List I5) : ∀ (k : Int) (op : Bool) (b : Int), (txGo n r k op b).Pairwise (fun t s => t.2 < s.1) := by
  induction r with
  | nil => intro k op b; cases op <;> simp [txGo]
  | cons x r ih =>
    intro k op b
    refine txGo_cases (P := fun l => l.Pairwise (fun t s => t.2 < s.1)) (fun _ _ => ih _ _ _) (fun _ _ => ?_) (fun _ _ => ih _ _ _)
    refine List.pairwise_cons.2 ⟨fun s hs => ?_, ih _ _ _⟩
    rcases txGo_lo r _ _ _ s hs with ⟨h, _⟩ | h
    · cases h
    · simp only; omega
theorem txGo_open {n : Int} (r : List I5) : ∀ (k : Int) (b : Int), k + r.length = n → ∃ c rest, txGo n r k true b = (b, c) :: rest ∧ k ≤ c ∧ c ≤ n := by
  induction r with
  | nil => intro k b hk; exact ⟨n, [], by simp [txGo], by simp at hk; omega, Int.le_refl _⟩
  | cons x r ih =>
    intro k b hk
    simp only [List.length_cons] at hk
    by_cases h8 : x.op = 8
    · rw [txGo_commit h8]
      exact ⟨k, _, rfl, Int.le_refl _, by omega⟩
    · rw [txGo_other (by simp) (fun h => h8 h.1)]
      obtain ⟨c, rest, h1, h2, h3⟩ := ih (k + 1) b (by omega)
      exact ⟨c, rest, h1, by omega, h3⟩
/-! ### Spans. -/
def inS (n t : Int) (x : Int × Int) : Bool := decide (x.1 ≤ t) && decide (t ≤ x.2) && decide (t < n)
def spOf (o : Option (Int × Int)) : Int × Int := match o with
  | some x => x
  | none => (-1, -1)
theorem span_go (t : Int) (N : Nat) (r : List I5) : ∀ (k : Nat) (op : Bool) (b b' : Int), k + r.length = N → (op = false → b' < 0) → (op = true → b' = b ∧ 0 ≤ b) → spanGo t N r k b' = spOf ((txGo N r k op b).find? (inS N t)) := by
  induction r with
  | nil =>
    intro k op b b' hk h1 h2
    cases op with
    | false =>
      have := h1 rfl
      unfold spanGo
      rw [if_neg (by omega)]
      simp [txGo, spOf]
    | true =>
      obtain ⟨rfl, h3⟩ := h2 rfl
      simp only [List.length_nil] at hk
      unfold spanGo
      by_cases hc : 0 ≤ b' ∧ b' ≤ t ∧ t < N
      · rw [if_pos hc]
        have : inS N t (b', (N : Int)) = true := by unfold inS; simp; omega
        simp [txGo, this, spOf]
      · rw [if_neg hc]
        have : inS N t (b', (N : Int)) = false := by
          cases he : inS N t (b', (N : Int)) with
          | false => rfl
          | true => unfold inS at he; simp at he; omega
        simp [txGo, this, spOf]
  | cons x r ih =>
    intro k op b b' hk h1 h2
    simp only [List.length_cons] at hk
    unfold spanGo
    have hk1 : ((k + 1 : Nat) : Int) = (k : Int) + 1 := by omega
    refine txGo_cases (P := fun l => (if b' < 0 ∧ x.op = 7 then spanGo t N r (k + 1) k else if 0 ≤ b' ∧ x.op = 8 then (if b' ≤ t ∧ t ≤ k then (b', (k : Int)) else spanGo t N r (k + 1) (-1)) else spanGo t N r (k + 1) b') = spOf (l.find? (inS N t))) ?_ ?_ ?_
    · intro ho h7
      have := h1 ho
      rw [if_pos ⟨this, h7⟩]
      have h := ih (k + 1) true k k (by omega) (fun h => by cases h) (fun _ => ⟨rfl, by omega⟩)
      rw [h, hk1]
    · intro ho h8
      obtain ⟨rfl, h3⟩ := h2 ho
      rw [if_neg (by omega), if_pos ⟨h3, h8⟩]
      by_cases hc : b' ≤ t ∧ t ≤ k
      · rw [if_pos hc]
        have : inS N t (b', (k : Int)) = true := by unfold inS; simp; omega
        simp [this, spOf]
      · rw [if_neg hc]
        have : inS N t (b', (k : Int)) = false := by
          cases he : inS N t (b', (k : Int)) with
          | false => rfl
          | true => unfold inS at he; simp at he; omega
        have h := ih (k + 1) false b' (-1) (by omega) (fun _ => by omega) (fun h => by cases h)
        rw [h, hk1]
        simp [this]
    · intro a c
      cases op with
      | false =>
        have := h1 rfl
        rw [if_neg (fun h => a ⟨h.2, rfl⟩), if_neg (by omega)]
        have h := ih (k + 1) false b b' (by omega) h1 h2
        rw [h, hk1]
      | true =>
        obtain ⟨rfl, h3⟩ := h2 rfl
        rw [if_neg (by omega), if_neg (fun h => c ⟨h.2, rfl⟩)]
        have h := ih (k + 1) true b' b' (by omega) h1 h2
        rw [h, hk1]
theorem spanV_eq (ps : List I5) (t : Int) : spanV ps t = spOf ((txV ps).find? (inS ps.length t)) :=
  span_go t ps.length ps 0 false 0 (-1) (by omega) (fun _ => by omega) (fun h => by cases h)
end Go.Proofs.YthnhmclnfgkppaaDoor.PgT
