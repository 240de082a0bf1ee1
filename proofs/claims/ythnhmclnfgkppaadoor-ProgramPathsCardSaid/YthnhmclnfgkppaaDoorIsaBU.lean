/-
  Contract of Place of package isa.
-/
import Derived.Test.YthnhmclnfgkppaaDoorIsaB
namespace Go.Proofs.YthnhmclnfgkppaaDoor.IsaBU
open Go.ChangeShapes Go.WideShapes Go.ChangeAt Go.RowKit
open PlainT IsaE IsaS BlkW IsaA IsaB
set_option linter.unusedVariables false
set_option maxHeartbeats 400000
theorem a_place_v (op a b c i v : Int) (hv : placeV op a b c i = v) (w : World) (h : Env w) : Calls Tryd.prog 50 #[ins op a b c i] w fun e w' => e = .returned (.int .i64 v) ∧ Below w.heap.size w w' := by
  show Calls _ _ #[.agg _] _ _
  unfold placeV at hv
  rcases chk_cases op a b c i with ⟨h0, h1, h2⟩ | h0 | h0
  · obtain ⟨k, rfl⟩ := Int.eq_ofNat_of_zero_le h1
    have hk : k < 18 := by omega
    have HK := Lib.hid hk
    have HV := Lib.hid h0
    rw [if_pos h0, Int.toNat_natCast] at hv
    have HP := Lib.hid hv
    clear h0 h1 h2 hv
    go_enter Tryd.func50, Tryd.ntmps50
    go_wp2_with fail
    refine (a_check_v HV.out _ (h.alloc _)).mono ?_
    rintro e w1 ⟨rfl, hb1⟩
    have hE1 : Env w1 := (h.alloc _).below hb1
    have hm1 : Mem w1 w.heap.size 31 (boxed k a b c i) := (Mem.new w 31 (boxed k a b c i)).below hb1 (by simp)
    have hcell := shape_place hE1 k HK.out
    rw [HP.out] at hcell
    have hop : w1.cell? ⟨w.heap.size, 0, none⟩ = some (.int .i64 k) := hm1.cell 0
    have hbw := (below_new w (.cells (boxed k a b c i) 31)).trans (hb1.mono (by simp))
    clear hb1 h hE1 hm1
    go_wp2
    go_ret
    exact ⟨rfl, hbw⟩
  all_goals
    rw [if_neg (by omega)] at hv
    subst hv
    have HV := Lib.hid h0
    clear h0
    go_enter Tryd.func50, Tryd.ntmps50
    go_wp2_with (go_at_call 48; refine (a_check_v HV.out _ (h.alloc _)).mono ?_; rintro e w1 ⟨rfl, hb1⟩)
    go_ret
    exact ⟨rfl, (below_new _ _).trans (hb1.mono (by simp))⟩
end Go.Proofs.YthnhmclnfgkppaaDoor.IsaBU
