/-
  Contract of the statements' own function: Config of strongtxmake.
-/
import Derived.Test.YtphnadchdhblpaaGreatLayK
namespace Go.Proofs.YtphnadchdhblpaaGreat.LayP
open Go.ChangeShapes Go.WideShapes Go.ChangeAt Go.RowKit
open PlainT BlkW LayS LayA LayH LayK
set_option linter.unusedVariables false
set_option maxHeartbeats 1000000

/-- What Config makes. -/
def Made (q : Cfg) : Prop := 4 ≤ q.w ∧ q.w ≤ 12 ∧ 1 ≤ q.o ∧ q.o ≤ 8 ∧ q.b = 2 ∧ 0 ≤ q.c0 ∧ 0 ≤ q.c1 ∧ q.c2 = 0 ∧ q.c3 = 0 ∧ 2 + q.c0 + 2 * q.c1 ≤ q.w ∧ 1 ≤ q.r ∧ q.r ≤ 6 ∧ 1 ≤ q.t ∧ q.t ≤ 8 ∧ 0 ≤ q.a ∧ q.a ≤ 2 ∧ 0 ≤ q.f ∧ q.f ≤ 2 ∧ 0 ≤ q.k ∧ q.k ≤ 50
theorem made_valid {q : Cfg} (h : Made q) : Valid q := by
  unfold Made at h
  unfold Valid
  omega
def MadeCfg (w : World) (e : Ending) (w' : World) : Prop := ∃ q, e = .returned (cfgV q) ∧ Made q ∧ Below w.heap.size w w'
/-- What is held while Config runs: the two boxes. -/
def CC (w0 : World) (q : Cfg) (w : World) : Prop := Mem w (w0.heap.size + 1) TC (cells q) ∧ Mem w w0.heap.size TC (cells zeroC) ∧ Below w0.heap.size w0 w
theorem CC.drew {w0 w : World} {q : Cfg} (h : CC w0 q w) : CC w0 q w.drew := ⟨h.1, h.2.1, below_drewN h.2.2 1⟩
theorem CC.same {w0 w w' : World} {q : Cfg} (h : CC w0 q w) (hw : w = w') : CC w0 q w' := hw ▸ h
theorem CC.keep {w0 w w' : World} {q : Cfg} (h : CC w0 q w) (hb : Below w.heap.size w w') : CC w0 q w' := ⟨h.1.below hb h.1.lt, h.2.1.below hb h.2.1.lt, below_trans2 h.2.2 hb⟩
theorem cc_new (w : World) (q : Cfg) : CC w q ((w.alloc (.cells (cells zeroC) TC)).alloc (.cells (cells q) TC)) := ⟨mem_new1 _ _ _ _, (Mem.new _ _ _).alloc _, below_new2 _ _ _⟩
theorem CC.set0 {w0 w : World} {q : Cfg} (h : CC w0 q w) (v : Int) : CC w0 { q with c0 := v } (w.setCell ⟨w0.heap.size + 1, 3, none⟩ (.int .i64 v)) :=
  ⟨h.1.set_ 3 _, h.2.1.far (by show w0.heap.size ≠ w0.heap.size + 1; omega) _, h.2.2.setCell (by show w0.heap.size ≤ w0.heap.size + 1; omega) _⟩
theorem CC.set1 {w0 w : World} {q : Cfg} (h : CC w0 q w) (v : Int) : CC w0 { q with c1 := v } (w.setCell ⟨w0.heap.size + 1, 4, none⟩ (.int .i64 v)) :=
  ⟨h.1.set_ 4 _, h.2.1.far (by show w0.heap.size ≠ w0.heap.size + 1; omega) _, h.2.2.setCell (by show w0.heap.size ≤ w0.heap.size + 1; omega) _⟩
theorem place_below (a m : Int) (h0 : 0 < m) (h1 : m ≤ 1000) (w : World) : Calls Tryz.prog 8 #[.int .i64 a, .int .i64 m] w fun e w' => ∃ v, 0 ≤ v ∧ v ≤ m - 1 ∧ e = .returned (.int .i64 v) ∧ Below w.heap.size w w' :=
  (k_place_ex a m h0 h1 w).mono fun e w' ⟨v, h0, h1, h, hw⟩ => ⟨v, h0, h1, h, hw ▸ Below.refl _ _⟩
end Go.Proofs.YtphnadchdhblpaaGreat.LayP
