/-
  Contracts of package layout: Class, First; and of its reference: Class, First.
-/
import Derived.Test.YthnhmclnfgkppaaDoorLayE
namespace Go.Proofs.YthnhmclnfgkppaaDoor.LayF
open Go.ChangeShapes Go.WideShapes Go.ChangeAt Go.RowKit
open PlainT BlkW LayS LayA LayB LayC LayD LayE
set_option linter.unusedVariables false
set_option maxHeartbeats 1000000

theorem a_class (q : Cfg) (b : Int) (w : World) : Calls Tryd.prog 37 #[cfgV q, .int .i64 b] w fun e w' => e = .returned (.int .i64 (clsV q b)) ∧ Below w.heap.size w w' := by
  have HM := Lib.hid (Mem.new w TC (cells q))
  have HB := Lib.hid (below_new w (.cells (cells q) TC))
  go_enter Tryd.func37, Tryd.ntmps37
  go_wp2_with (go_at_call 58; (with_reducible refine (a_locate q b _).mono ?_); rintro e w2 ⟨rfl, hb2⟩; have HB2 := Lib.hid (HB.out.trans (hb2.mono (by rw [size_new]; omega))); have HM2 := Lib.hid (HM.out.below hb2 HM.out.lt); clear hb2; obtain ⟨d0, d1, d2, d3, d4, d5, d6, d7, d8, d9, d10, d11, d12⟩ := box_cells HM2.out)
  go_ret
  exact ⟨rfl, HB2.out⟩
theorem a_first (q : Cfg) (b : Int) (w : World) : Calls Tryd.prog 36 #[cfgV q, .int .i64 b] w fun e w' => e = .returned (.int .i64 (fstV q b)) ∧ Below w.heap.size w w' := by
  have HM := Lib.hid (Mem.new w TC (cells q))
  have HB := Lib.hid (below_new w (.cells (cells q) TC))
  go_enter Tryd.func36, Tryd.ntmps36
  go_wp2_with (go_at_call 58; (with_reducible refine (a_locate q b _).mono ?_); rintro e w2 ⟨rfl, hb2⟩; have HB2 := Lib.hid (HB.out.trans (hb2.mono (by rw [size_new]; omega))); have HM2 := Lib.hid (HM.out.below hb2 HM.out.lt); clear hb2; obtain ⟨d0, d1, d2, d3, d4, d5, d6, d7, d8, d9, d10, d11, d12⟩ := box_cells HM2.out)
  go_ret
  exact ⟨rfl, HB2.out⟩
theorem cls_of {q : Cfg} {i : Int} (h0 : 0 ≤ i) (h1 : i < blkV q) : clsV q i = clsN q i := by
  unfold clsV
  rw [if_pos ⟨h0, h1⟩]
theorem fst_of {q : Cfg} {i : Int} (h0 : 0 ≤ i) (h1 : i < blkV q) : fstV q i = fstN q i := by
  unfold fstV
  rw [if_pos ⟨h0, h1⟩]
theorem blk_of {q : Cfg} (h : Valid q) : blkV q = q.c0 + q.c1 + q.c2 + q.c3 := by
  unfold blkV
  rw [if_pos (chk_iff.2 h)]
end Go.Proofs.YthnhmclnfgkppaaDoor.LayF
