/-
  Two sets side by side.
-/
import Derived.Test.YtcohfgenpbhfeaaRsC
namespace Go.Proofs.Ytcohfgenpbhfeaa.RsD
open Go.ChangeShapes Go.WideShapes Go.ChangeAt Go.RowKit
open PlainT BlkW CelS CelM CelV CelN LabD FreV FreI RsA RsB RsC
set_option linter.unusedVariables false
set_option maxHeartbeats 1000000
set_option maxRecDepth 100000
/-- The program's set and the reference's, with the same elements. -/
structure Two (w : World) (B g r : Nat) (q : Int) (v u : Value) (xs : List Int) : Prop where
  s : SetIs w B g TS q v xs
  t : SetIs w B r TR q u xs
  d : Dis v u
section
variable {w w' : World} {B g r : Nat} {q : Int} {v v' u u' : Value} {xs ys : List Int}
theorem Two.below (h : Two w B g r q v u xs) (k : Below w.heap.size w w') : Two w' B g r q v u xs := ⟨h.s.below k, h.t.below k, h.d⟩
theorem Two.drewN (h : Two w B g r q v u xs) (n : Nat) : Two (w.drewN n) B g r q v u xs := ⟨h.s.drewN n, h.t.drewN n, h.d⟩
theorem two_ne (h : SetIs w B g TS q v xs) (k : SetIs w B r TR q u ys) : g ≠ r := by
  rintro rfl
  have h1 := h.box
  have h2 := k.box
  unfold Mem at h1 h2
  rw [h1] at h2
  injection h2 with h2
  injection h2 with _ h3
  exact absurd h3 (by decide)
/-- The program's step leaves the reference's set. -/
theorem Two.left (h : Two w B g r q v u xs) (hF : Fr (PS g v) w w') (hob : v'.ownBlock = v.ownBlock ∨ ∃ y, v'.ownBlock = some y ∧ w.heap.size ≤ y) : SetIs w' B r TR q u xs ∧ Dis v' u :=
  ⟨h.t.fr hF (fun e => by
    rcases e with e | e
    · exact two_ne h.s h.t e.symm
    · exact own_ne_mem h.s.row h.t.box h.t.ne e) (fun x hx e => by
    rcases e with rfl | e
    · exact own_ne_mem h.t.row h.s.box h.s.ne hx
    · exact h.d x e hx), h.d.left hob (own_lt h.t.row)⟩
theorem two_right (h : SetIs w B g TS q v ys) (k : SetIs w B r TR q u xs) (d : Dis v u) (hF : Fr (PS r u) w w') (hob : u'.ownBlock = u.ownBlock ∨ ∃ y, u'.ownBlock = some y ∧ w.heap.size ≤ y) : SetIs w' B g TS q v ys ∧ Dis v u' :=
  ⟨h.fr hF (fun e => by
    rcases e with e | e
    · exact two_ne h k e
    · exact own_ne_mem k.row h.box h.ne e) (fun x hx e => by
    rcases e with rfl | e
    · exact own_ne_mem h.row k.box k.ne hx
    · exact d x hx e), (d.symm.left hob (own_lt h.row)).symm⟩
theorem two_ints {a : Value} (h : Two w B g r q v u xs) (ha : RdI w a xs) : Calls Try.prog 14 #[a, u] w fun e w' => e = .returned (.bool true) ∧ Two w' B g r q v u xs ∧ Below w.heap.size w w' :=
  (k_ints w a u xs ha h.t.rd (by have := h.s.len; omega)).mono fun e w' ⟨he, nd, hw⟩ => by
    subst hw
    exact ⟨he, h.drewN nd, below_drewN (Below.refl _ _) nd⟩
end
end Go.Proofs.Ytcohfgenpbhfeaa.RsD
