/-
  The reference's reader goes on behind bad bytes: plain mathematics of the lists that it reads so.
-/
import Derived.Test.YtafidppjabdecaaCodeRB
import Derived.Test.YtafidppjabdecaaCodeG
namespace Go.Proofs.Ytafidppjabdecaa.CodeRC
open PlainT BlkW LawFrame CodeS CodeW CodeA CodeE CodeF CodeG CodeRA CodeRB
set_option linter.unusedVariables false

/-- Of m values from l0 on, xs are read, n are wanted, r is left; or the bytes are bad. -/
def Half {α : Type} (f : List Int → Option (α × List Int)) (m : Nat) (l0 : List Int) (n : Nat) (xs : List α) (bad : Bool) (r : List Int) : Prop :=
  xs.length + n = m ∧ ((bad = true ∧ rN f m l0 = none) ∨ (bad = false ∧ rN f m l0 = (rN f n r).map fun y => (xs ++ y.1, y.2)))
theorem Half.start {α : Type} {f : List Int → Option (α × List Int)} (m : Nat) (l0 : List Int) : Half f m l0 m [] false l0 :=
  ⟨by simp, .inr ⟨rfl, by simp⟩⟩
theorem Half.step {α : Type} {f : List Int → Option (α × List Int)} {m n : Nat} {l0 r r' : List Int} {xs : List α} {bad bad' : Bool} {x : α} (h : Half f m l0 (n + 1) xs bad r)
    (k : (bad' = true ∧ (bad = true ∨ f r = none)) ∨ (bad' = false ∧ bad = false ∧ f r = some (x, r'))) : Half f m l0 n (xs ++ [x]) bad' r' := by
  obtain ⟨h1, h2⟩ := h
  refine ⟨by simp; omega, ?_⟩
  rcases k with ⟨k1, k2⟩ | ⟨k1, k2, k3⟩
  · refine .inl ⟨k1, ?_⟩
    rcases h2 with ⟨_, h3⟩ | ⟨h3, h4⟩
    · exact h3
    · rcases k2 with k2 | k2
      · rw [h3] at k2; cases k2
      · rw [h4]
        simp [rN, k2]
  · refine .inr ⟨k1, ?_⟩
    rcases h2 with ⟨h3, _⟩ | ⟨_, h4⟩
    · rw [k2] at h3; cases h3
    · rw [h4]
      simp only [rN, k3, Option.bind_some]
      cases rN f n r' with
      | none => rfl
      | some y => simp
theorem Half.done {α : Type} {f : List Int → Option (α × List Int)} {m : Nat} {l0 r : List Int} {xs : List α} {bad : Bool} (h : Half f m l0 0 xs bad r) : (bad = true ∧ rN f m l0 = none) ∨ (bad = false ∧ rN f m l0 = some (xs, r)) := by
  obtain ⟨_, h2⟩ := h
  rcases h2 with h2 | ⟨h3, h4⟩
  · exact .inl h2
  · exact .inr ⟨h3, by rw [h4]; simp [rN]⟩
/-- A parser that takes at least d bytes for a value takes d n for n values. -/
theorem rN_cost {α : Type} {f : List Int → Option (α × List Int)} {d : Nat} (hf : ∀ l r x, f l = some (x, r) → r.length + d ≤ l.length) : ∀ (n : Nat) (l r : List Int) (xs : List α), rN f n l = some (xs, r) → r.length + d * n ≤ l.length := by
  intro n
  induction n with
  | zero => intro l r xs h; simp [rN] at h; obtain ⟨rfl, rfl⟩ := h; simp
  | succ n ih =>
    intro l r xs h
    simp only [rN, Option.bind_eq_some_iff, Option.map_eq_some_iff, Prod.mk.injEq] at h
    obtain ⟨⟨x, l1⟩, h1, ⟨ys, l2⟩, h2, rfl, rfl⟩ := h
    have a := hf _ _ _ h1
    have b := ih _ _ _ h2
    simp only at b
    rw [Nat.mul_succ]
    show l2.length + (d * n + d) ≤ l.length
    omega
theorem rL_short {α : Type} {f : List Int → Option (α × List Int)} {d : Nat} (hf : ∀ l r x, f l = some (x, r) → r.length + d ≤ l.length) {l r : List Int} {x : Int} (h : rU l = some (x, r)) (hx : (r.length : Int) < d * x) : rL f l = none := by
  unfold rL
  rw [h]
  simp only [Option.bind_some]
  cases hn : rN f x.toNat r with
  | none => rfl
  | some y =>
    exfalso
    have := rN_cost hf x.toNat r y.2 y.1 hn
    have e : (d : Int) * x ≤ ((d * x.toNat : Nat) : Int) := by
      rw [Int.natCast_mul]
      exact Int.mul_le_mul_of_nonneg_left (by omega) (by omega)
    omega
theorem rI_five {l r : List Int} {x : List Int} (h : rI l = some (x, r)) : r.length + 5 ≤ l.length := by
  have := rN_cost (d := 1) (fun l r x h => by have := rS_lt h; omega) 5 l r x h
  omega
/-- A list's length that is read, or the mark: so is the list's parser. -/
theorem lis_list {α : Type} {f : List Int → Option (α × List Int)} {d B g i : Nat} {w w' : World} {l : List Int} {v : Int} (hf : ∀ l r x, f l = some (x, r) → r.length + d ≤ l.length) (h : LIs d B g w l i false v w') :
    ∃ (j : Nat) (bad' : Bool), i ≤ j ∧ 0 ≤ v ∧ v ≤ 262144 ∧ Rq B w' g l j bad' ∧ Fr TQ B w w' ∧ ((bad' = true ∧ v = 0 ∧ rL f (l.drop i) = none) ∨ (bad' = false ∧ rL f (l.drop i) = rN f v.toNat (l.drop j) ∧ d * v ≤ (l.drop j).length)) := by
  obtain ⟨j, bad', h1, h2, h3, h4, h5, h6⟩ := h
  refine ⟨j, bad', h1, h2, h3, h4, h5, ?_⟩
  rcases h6 with ⟨k1, k2, k3⟩ | ⟨k1, k2, k3, k4⟩
  · refine .inl ⟨k1, k2, ?_⟩
    rcases k3 with k3 | k3 | ⟨x, r, k3, k4⟩
    · cases k3
    · unfold rL; rw [k3]; rfl
    · exact rL_short hf k3 k4
  · exact .inr ⟨k1, by unfold rL; rw [k3]; rfl, k4⟩
end Go.Proofs.Ytafidppjabdecaa.CodeRC
