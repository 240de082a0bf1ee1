/-
  Toward strongtxmake's Script: the boxes while it runs.
-/
import Derived.Test.YthnhmclnfgkppaaDoorPrgZ
import Derived.Test.YthnhmclnfgkppaaDoorScrP
namespace Go.Proofs.YthnhmclnfgkppaaDoor.ScrM
open Go.ChangeShapes Go.WideShapes Go.ChangeAt Go.RowKit
open PlainT BlkW LawFrame IsaF PrgS PrgC PrgI PrgG PrgL Go.Proofs.YthnhmclnfgkppaaDoor.Own OwnS PrgZ LayS LayA ScrP
set_option linter.unusedVariables false
set_option maxHeartbeats 1000000
set_option maxRecDepth 100000
abbrev nilV : Value := .slice none 0 0
abbrev cfg0 : Cfg := ⟨0, 0, 0, 0, 0, 0, 0, 0, 0, 0, 0, 0, false⟩
/-- The configuration's box, the result's and the script's. -/
def SB (w0 : World) (q : Cfg) (a b c : Value) (w : World) : Prop := Mem w w0.heap.size TC (cells q) ∧ Mem w (w0.heap.size + 1) TS (scells cfg0 nilV nilV nilV) ∧ Mem w (w0.heap.size + 2) TS (scells q a b c) ∧ Below w0.heap.size w0 w
theorem sb_new (w : World) (q : Cfg) : SB w q nilV nilV nilV (((w.alloc (.cells (cells q) TC)).alloc (.cells (scells cfg0 nilV nilV nilV) TS)).alloc (.cells (scells q nilV nilV nilV) TS)) := by
  have e1 : (w.alloc (.cells (cells q) TC)).heap.size = w.heap.size + 1 := size_new _ _
  have e2 : ((w.alloc (.cells (cells q) TC)).alloc (.cells (scells cfg0 nilV nilV nilV) TS)).heap.size = w.heap.size + 2 := by rw [size_new, e1]
  refine ⟨((Mem.new _ _ _).alloc _).alloc _, ?_, ?_, ?_⟩
  · have h := (Mem.new (w.alloc (.cells (cells q) TC)) TS (scells cfg0 nilV nilV nilV)).alloc (.cells (scells q nilV nilV nilV) TS)
    rw [e1] at h
    exact h
  · have h := Mem.new ((w.alloc (.cells (cells q) TC)).alloc (.cells (scells cfg0 nilV nilV nilV) TS)) TS (scells q nilV nilV nilV)
    rw [e2] at h
    exact h
  · exact (((Below.refl _ _).alloc (by omega) _).alloc (by rw [e1]; omega) _).alloc (by rw [e2]; omega) _
theorem SB.size {w0 w : World} {q : Cfg} {a b c : Value} (h : SB w0 q a b c w) : w0.heap.size + 2 < w.heap.size := h.2.2.1.lt
theorem SB.keep {w0 w w' : World} {q : Cfg} {a b c : Value} (h : SB w0 q a b c w) (hb : Below w0.heap.size w w') (hk : ∀ g, g < w0.heap.size + 3 → w0.heap.size ≤ g → w'.heap[g]? = w.heap[g]?) : SB w0 q a b c w' :=
  ⟨(hk _ (by omega) (by omega)).trans h.1, (hk _ (by omega) (by omega)).trans h.2.1, (hk _ (by omega) (by omega)).trans h.2.2.1, h.2.2.2.trans hb⟩
theorem SB.a {w0 w : World} {q : Cfg} {a b c : Value} (h : SB w0 q a b c w) (u : Value) : SB w0 q u b c (w.setCell ⟨w0.heap.size + 2, 13, none⟩ u) :=
  ⟨h.1.far (by show w0.heap.size ≠ w0.heap.size + 2; omega) _, h.2.1.far (by show w0.heap.size + 1 ≠ w0.heap.size + 2; omega) _, h.2.2.1.set_ 13 _, h.2.2.2.setCell (by show w0.heap.size ≤ w0.heap.size + 2; omega) _⟩
theorem SB.b {w0 w : World} {q : Cfg} {a b c : Value} (h : SB w0 q a b c w) (u : Value) : SB w0 q a u c (w.setCell ⟨w0.heap.size + 2, 14, none⟩ u) :=
  ⟨h.1.far (by show w0.heap.size ≠ w0.heap.size + 2; omega) _, h.2.1.far (by show w0.heap.size + 1 ≠ w0.heap.size + 2; omega) _, h.2.2.1.set_ 14 _, h.2.2.2.setCell (by show w0.heap.size ≤ w0.heap.size + 2; omega) _⟩
theorem SB.c {w0 w : World} {q : Cfg} {a b c : Value} (h : SB w0 q a b c w) (u : Value) : SB w0 q a b u (w.setCell ⟨w0.heap.size + 2, 15, none⟩ u) :=
  ⟨h.1.far (by show w0.heap.size ≠ w0.heap.size + 2; omega) _, h.2.1.far (by show w0.heap.size + 1 ≠ w0.heap.size + 2; omega) _, h.2.2.1.set_ 15 _, h.2.2.2.setCell (by show w0.heap.size ≤ w0.heap.size + 2; omega) _⟩
/-- A row of its own that is none of the three boxes. -/
theorem SB.row {w0 w : World} {q : Cfg} {a b c v : Value} {e : TypeId} {s n : Nat} {xs : List Value} (h : SB w0 q a b c w) (ho : w.ownsRow w0.heap.size e s v n xs) (h1 : e ≠ TC) (h2 : e ≠ TS) : ∀ g, g < w0.heap.size + 3 → w0.heap.size ≤ g → v.ownBlock ≠ some g := by
  intro g hg hl
  rcases (show g = w0.heap.size ∨ g = w0.heap.size + 1 ∨ g = w0.heap.size + 2 by omega) with rfl | rfl | rfl
  · exact own_ne_mem ho h.1 h1
  · exact own_ne_mem ho h.2.1 h2
  · exact own_ne_mem ho h.2.2.1 h2
/-- A store into the script's box leaves the rows. -/
theorem SB.far {w0 w : World} {q : Cfg} {a b c v : Value} {e : TypeId} {s n : Nat} {xs : List Value} (h : SB w0 q a b c w) (ho : w.ownsRow w0.heap.size e s v n xs) (h2 : e ≠ TS) (k : Nat) (u : Value) : (w.setCell ⟨w0.heap.size + 2, k, none⟩ u).ownsRow w0.heap.size e s v n xs :=
  own_far ho (own_ne_mem ho h.2.2.1 h2) u
end Go.Proofs.YthnhmclnfgkppaaDoor.ScrM
