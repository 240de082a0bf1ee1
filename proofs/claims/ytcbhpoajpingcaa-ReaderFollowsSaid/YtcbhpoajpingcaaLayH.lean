/-
  What a drawn region holds over a boxed configuration.
-/
import Derived.Test.YtcbhpoajpingcaaLayG
namespace Go.Proofs.Ytcbhpoajpingcaa.LayH
open Go.ChangeShapes Go.WideShapes Go.ChangeAt Go.RowKit
open PlainT BlkW LayS LayA LayB LayC LayD LayE LayF LayG
set_option linter.unusedVariables false
set_option maxHeartbeats 1000000

theorem below_trans2 {w a b : World} (h : Below w.heap.size w a) (k : Below a.heap.size a b) : Below w.heap.size w b := h.trans (k.mono h.size)
def HQ (w0 : World) (g : Nat) (q : Cfg) (w : World) : Prop := Mem w g TC (cells q) ∧ Below w0.heap.size w0 w
abbrev HeldQ (w0 : World) (g : Nat) (q : Cfg) (w : World) : Prop :=
  w.cell? ⟨g, 0, none⟩ = some (.int .i64 q.w) ∧ w.cell? ⟨g, 1, none⟩ = some (.int .i64 q.o) ∧ w.cell? ⟨g, 2, none⟩ = some (.int .i64 q.b) ∧ w.cell? ⟨g, 3, none⟩ = some (.int .i64 q.c0) ∧ w.cell? ⟨g, 4, none⟩ = some (.int .i64 q.c1) ∧ w.cell? ⟨g, 5, none⟩ = some (.int .i64 q.c2) ∧ w.cell? ⟨g, 6, none⟩ = some (.int .i64 q.c3) ∧
    w.cell? ⟨g, 7, none⟩ = some (.int .i64 q.r) ∧ w.cell? ⟨g, 8, none⟩ = some (.int .i64 q.t) ∧ w.cell? ⟨g, 9, none⟩ = some (.int .i64 q.a) ∧ w.cell? ⟨g, 10, none⟩ = some (.int .i64 q.f) ∧ w.cell? ⟨g, 11, none⟩ = some (.int .i64 q.k) ∧ w.cell? ⟨g, 12, none⟩ = some (.bool q.s) ∧ HQ w0 g q w
theorem heldq_of {w0 : World} {g : Nat} {q : Cfg} {w : World} (h : HQ w0 g q w) : HeldQ w0 g q w := by
  obtain ⟨d0, d1, d2, d3, d4, d5, d6, d7, d8, d9, d10, d11, d12⟩ := box_cells h.1
  exact ⟨d0, d1, d2, d3, d4, d5, d6, d7, d8, d9, d10, d11, d12, h⟩
theorem heldq_drew {w0 : World} {g : Nat} {q : Cfg} {w : World} (h : HQ w0 g q w) : HeldQ w0 g q w.drew :=
  heldq_of ⟨h.1, below_drewN h.2 1⟩
theorem heldq_hq {w0 : World} {g : Nat} {q : Cfg} {w : World} (h : HeldQ w0 g q w) : HQ w0 g q w := h.2.2.2.2.2.2.2.2.2.2.2.2.2
theorem heldq_keep {w0 : World} {g : Nat} {q : Cfg} {w w' : World} (h : HeldQ w0 g q w) (hb : Below w.heap.size w w') : HeldQ w0 g q w' := by
  obtain ⟨h1, h2⟩ := heldq_hq h
  exact heldq_of ⟨h1.below hb h1.lt, below_trans2 h2 hb⟩
theorem hq_new (w : World) (q : Cfg) : HQ w w.heap.size q (w.alloc (.cells (cells q) TC)) := ⟨Mem.new _ _ _, below_new _ _⟩
theorem within_below (n lo hi : Int) (w : World) : Calls Try.prog 111 #[.int .i64 n, .int .i64 lo, .int .i64 hi] w fun e w' => e = .returned (.bool (inB n lo hi)) ∧ Below w.heap.size w w' :=
  (a_within n lo hi w).mono fun e w' ⟨h, hw⟩ => ⟨h, hw ▸ Below.refl _ _⟩
end Go.Proofs.Ytcbhpoajpingcaa.LayH
