/-
  Plain mathematics of the reference's Decode: what is still to be read at each place; its boxes.
-/
import Derived.Test.YtafidppjabdecaaCodeRD
namespace Go.Proofs.Ytafidppjabdecaa.CodeRE
open Go.ChangeShapes Go.WideShapes Go.ChangeAt Go.RowKit
open PlainT BlkW LawFrame CodeS CodeW CodeA CodeE CodeF CodeG CodeH CodeI CodeJ CodeO CodeRA CodeRB CodeRC CodeRD
open CodeM (IsV)
set_option linter.unusedVariables false
set_option maxHeartbeats 1000000

/-- The bytes are bad and so is what they decode to; or what they decode to is X. -/
def St (D : Option Scr) (bad : Bool) (X : Option Scr) : Prop := (bad = true ∧ D = none) ∨ (bad = false ∧ D = X)
def D5 (xs : List Int) (st : Bool) (is : List Int) (ps : List (List (List Int))) (ks r : List Int) : Option Scr := if r = [] then some ⟨xs, st, is, ps, ks⟩ else none
def D4 (xs : List Int) (st : Bool) (is : List Int) (ps : List (List (List Int))) (r : List Int) : Option Scr := (rL rS r).bind fun k => D5 xs st is ps k.1 k.2
def D3 (xs : List Int) (st : Bool) (is r : List Int) : Option Scr := (rL rP r).bind fun p => D4 xs st is p.1 p.2
def D2 (xs : List Int) (st : Bool) (r : List Int) : Option Scr := (rL rU r).bind fun i => D3 xs st i.1 i.2
def D1 (xs r : List Int) : Option Scr := (rF r).bind fun f => D2 xs f.1 f.2
theorem decP_eq (r : List Int) : decP (83 :: 84 :: 88 :: 49 :: r) = (rN rS 12 r).bind fun c => D1 c.1 c.2 := rfl
/-- ys are read, n are wanted, r is left. -/
def Go {α : Type} (D : Option Scr) (f : List Int → Option (α × List Int)) (F : List α → List Int → Option Scr) (n : Nat) (ys : List α) (bad : Bool) (r : List Int) : Prop :=
  St D bad ((rN f n r).bind fun i => F (ys ++ i.1) i.2)
theorem Go.step {α : Type} {D : Option Scr} {f : List Int → Option (α × List Int)} {F : List α → List Int → Option Scr} {n : Nat} {ys : List α} {bad bad' : Bool} {r r' : List Int} {x : α} (h : Go D f F (n + 1) ys bad r)
    (k : (bad' = true ∧ (bad = true ∨ f r = none)) ∨ (bad' = false ∧ bad = false ∧ f r = some (x, r'))) : Go D f F n (ys ++ [x]) bad' r' := by
  rcases k with ⟨k1, k2⟩ | ⟨k1, k2, k3⟩
  · refine .inl ⟨k1, ?_⟩
    rcases h with ⟨_, h3⟩ | ⟨h3, h4⟩
    · exact h3
    · rcases k2 with k2 | k2
      · rw [h3] at k2; cases k2
      · rw [h4]; simp [rN, k2]
  · refine .inr ⟨k1, ?_⟩
    rcases h with ⟨h3, _⟩ | ⟨_, h4⟩
    · rw [k2] at h3; cases h3
    · rw [h4]
      simp only [rN, k3, Option.bind_some]
      cases rN f n r' with
      | none => rfl
      | some y => simp
theorem Go.done {α : Type} {D : Option Scr} {f : List Int → Option (α × List Int)} {F : List α → List Int → Option Scr} {ys : List α} {bad : Bool} {r : List Int} (h : Go D f F 0 ys bad r) : St D bad (F ys r) := by
  unfold Go at h
  simpa [rN] using h
theorem Go.start {α : Type} {D : Option Scr} {f : List Int → Option (α × List Int)} {F : List α → List Int → Option Scr} {bad bad' : Bool} {n : Nat} {r r' : List Int} (h : St D bad ((rL f r).bind fun i => F i.1 i.2))
    (k : (bad' = true ∧ (bad = true ∨ rL f r = none)) ∨ (bad' = false ∧ bad = false ∧ rL f r = rN f n r')) : Go D f F n [] bad' r' := by
  rcases k with ⟨k1, k2⟩ | ⟨k1, k2, k3⟩
  · refine .inl ⟨k1, ?_⟩
    rcases h with ⟨_, h3⟩ | ⟨h3, h4⟩
    · exact h3
    · rcases k2 with k2 | k2
      · rw [h3] at k2; cases k2
      · rw [h4, k2]; rfl
  · refine .inr ⟨k1, ?_⟩
    rcases h with ⟨h3, _⟩ | ⟨_, h4⟩
    · rw [k2] at h3; cases h3
    · rw [h4, k3]; rfl
/-- A value that is itself a list. -/
theorem Go.inner {α : Type} {D : Option Scr} {g : List Int → Option (α × List Int)} {m : Nat} {F : List (List α) → List Int → Option Scr} {n : Nat} {ys : List (List α)} {bad : Bool} {r : List Int}
    (h : Go D (rN g m) F (n + 1) ys bad r) : Go D g (fun q r' => (rN (rN g m) n r').bind fun i => F (ys ++ q :: i.1) i.2) m [] bad r := by
  rcases h with h | ⟨h3, h4⟩
  · exact .inl h
  · refine .inr ⟨h3, ?_⟩
    rw [h4]
    simp only [rN]
    cases rN g m r with
    | none => rfl
    | some x =>
      simp only [Option.bind_some, List.nil_append]
      cases rN (rN g m) n x.2 with
      | none => rfl
      | some y => rfl
theorem Go.outer {α : Type} {D : Option Scr} {g : List Int → Option (α × List Int)} {m : Nat} {F : List (List α) → List Int → Option Scr} {n : Nat} {ys : List (List α)} {q : List α} {bad : Bool} {r : List Int}
    (h : Go D g (fun q r' => (rN (rN g m) n r').bind fun i => F (ys ++ q :: i.1) i.2) 0 q bad r) : Go D (rN g m) F n (ys ++ [q]) bad r := by
  have h := h.done
  rcases h with h | ⟨h3, h4⟩
  · exact .inl h
  · refine .inr ⟨h3, ?_⟩
    rw [h4]
    cases rN (rN g m) n r with
    | none => rfl
    | some y => simp
/-- A value that is a list whose length is read. -/
theorem Go.innerL {α : Type} {D : Option Scr} {g : List Int → Option (α × List Int)} {F : List (List α) → List Int → Option Scr} {n : Nat} {ys : List (List α)} {bad : Bool} {r : List Int}
    (h : Go D (rL g) F (n + 1) ys bad r) : St D bad ((rL g r).bind fun i => (fun q r' => (rN (rL g) n r').bind fun i => F (ys ++ q :: i.1) i.2) i.1 i.2) := by
  rcases h with h | ⟨h3, h4⟩
  · exact .inl h
  · refine .inr ⟨h3, ?_⟩
    rw [h4]
    simp only [rN]
    cases rL g r with
    | none => rfl
    | some x =>
      simp only [Option.bind_some]
      cases rN (rL g) n x.2 with
      | none => rfl
      | some y => rfl
theorem Go.outerL {α : Type} {D : Option Scr} {g : List Int → Option (α × List Int)} {F : List (List α) → List Int → Option Scr} {n : Nat} {ys : List (List α)} {q : List α} {bad : Bool} {r : List Int}
    (h : Go D g (fun q r' => (rN (rL g) n r').bind fun i => F (ys ++ q :: i.1) i.2) 0 q bad r) : Go D (rL g) F n (ys ++ [q]) bad r := by
  have h := h.done
  rcases h with h | ⟨h3, h4⟩
  · exact .inl h
  · refine .inr ⟨h3, ?_⟩
    rw [h4]
    cases rN (rL g) n r with
    | none => rfl
    | some y => simp
/-- A length read, whatever the mark. -/
theorem Go.len {α : Type} {D : Option Scr} {f : List Int → Option (α × List Int)} {F : List α → List Int → Option Scr} {d B g i : Nat} {w w' : World} {l : List Int} {bad : Bool} {v : Int} (hf : ∀ l r x, f l = some (x, r) → r.length + d ≤ l.length)
    (h : LIs d B g w l i bad v w') (hs : St D bad ((rL f (l.drop i)).bind fun i => F i.1 i.2)) :
    ∃ (m j : Nat) (bad' : Bool), v = (m : Int) ∧ m ≤ 262144 ∧ Rq B w' g l j bad' ∧ Fr TQ B w w' ∧ Go D f F m [] bad' (l.drop j) := by
  obtain ⟨j, bad', h1, h2, h3, h4, h5, h6⟩ := h
  refine ⟨v.toNat, j, bad', by omega, by omega, h4, h5, ?_⟩
  refine Go.start hs ?_
  rcases h6 with ⟨k1, k2, k3⟩ | ⟨k1, k2, k3, k4⟩
  · refine .inl ⟨k1, ?_⟩
    rcases k3 with k3 | k3 | ⟨x, r, k3, k4⟩
    · exact .inl k3
    · exact .inr (by unfold rL; rw [k3]; rfl)
    · exact .inr (rL_short hf k3 k4)
  · exact .inr ⟨k1, k2, by unfold rL; rw [k3]; rfl⟩
theorem rU_one (l r : List Int) (x : Int) (h : rU l = some (x, r)) : r.length + 1 ≤ l.length := by have := rU_lt h; omega
theorem rS_one (l r : List Int) (x : Int) (h : rS l = some (x, r)) : r.length + 1 ≤ l.length := by have := rS_lt h; omega
theorem rI_cost (l r : List Int) (x : List Int) (h : rI l = some (x, r)) : r.length + 5 ≤ l.length := rI_five h
theorem rP_one (l r : List Int) (x : List (List Int)) (h : rP l = some (x, r)) : r.length + 1 ≤ l.length := by
  unfold rP rL at h
  cases hu : rU l with
  | none => rw [hu] at h; cases h
  | some y =>
    rw [hu] at h
    simp only [Option.bind_some] at h
    have h1 := rU_lt hu
    have h2 := rN_cost rI_cost y.1.toNat y.2 r x h
    omega
end Go.Proofs.Ytafidppjabdecaa.CodeRE
