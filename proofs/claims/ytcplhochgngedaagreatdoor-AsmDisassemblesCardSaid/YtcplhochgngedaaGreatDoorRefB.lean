/-
  Contracts of the reference of layer 3: Uses, Sets, Place, Skips, Format.
-/
import Derived.Test.YtcplhochgngedaaGreatDoorRefA
namespace Go.Proofs.YtcplhochgngedaaGreatDoor.RefB
open Go.ChangeShapes Go.WideShapes Go.ChangeAt Go.RowKit
open PlainT IsaE IsaS BlkW IsaA IsaB IsaF RefA
set_option linter.unusedVariables false
set_option maxHeartbeats 400000
set_option maxRecDepth 100000
/-! ### Uses. -/
theorem SliceIs.later {w0 w w' : World} {zs : List Int} {e : Ending} (h : SliceIs w zs e w') (hb : Below w0.heap.size w0 w) (hs : w0.heap.size ≤ w.heap.size) : SliceIs w0 zs e w' := by
  obtain ⟨A, n, c, e1, h1, h2, h3, h4⟩ := h
  exact ⟨A, n, c, e1, h1, h2, h3, hb.trans (h4.mono hs)⟩
theorem r_place_v (op a b c i v : Int) (hii : InInt i) (hv : placeV op a b c i = v) (w : World) : Calls Tryz.prog 71 #[ins op a b c i] w fun e w' => e = .returned (.int .i64 v) ∧ Below w.heap.size w w' := by
  unfold placeV at hv
  rcases chk_cases op a b c i with ⟨h0, h1, h2⟩ | h0 | h0
  · obtain ⟨k, rfl⟩ := Int.eq_ofNat_of_zero_le h1
    have hk : k < 18 := by omega
    have HV := Lib.hid h0
    rw [if_pos h0, Int.toNat_natCast] at hv
    clear h0 h1 h2
    rcases op_cases hk with rfl | rfl | rfl | rfl | rfl | rfl | rfl | rfl | rfl | rfl | rfl | rfl | rfl | rfl | rfl | rfl | rfl | rfl
    all_goals
      show Calls _ _ #[.agg _] _ _
      simp [opPlaces] at hv
      subst hv
      clear hk
      go_enter Tryz.func71, Tryz.ntmps71
      go_wp2_with fail
      refine (r_check_v hii HV.out _).mono ?_
      rintro e w1 ⟨rfl, hb1⟩
      have hm1 : Mem w1 w.heap.size 40 (boxed _ a b c i) := (Mem.new w 40 (boxed _ a b c i)).below hb1 (by simp)
      obtain ⟨z0, z1, z2, z3, z4⟩ := boxed_cells hm1
      have hbw := (below_new w (.cells (boxed _ a b c i) 40)).trans (hb1.mono (by simp))
      clear hb1 hm1
      go_wp2
      go_ret
      exact ⟨rfl, hbw⟩
  all_goals
    show Calls _ _ #[.agg _] _ _
    rw [if_neg (by omega)] at hv
    subst hv
    have HV := Lib.hid h0
    clear h0
    go_enter Tryz.func71, Tryz.ntmps71
    go_wp2_with (go_at_call 40; refine (r_check_v hii HV.out _).mono ?_; rintro e w1 ⟨rfl, hb1⟩)
    go_ret
    exact ⟨rfl, (below_new _ _).trans (hb1.mono (by simp))⟩
theorem skips_has (k : Nat) (hk : k < 18) : (decide ((k : Int) = 4) || (decide ((k : Int) = 5) || decide ((k : Int) = 6))) = hasF k 106 := by
  rcases op_cases hk with rfl | rfl | rfl | rfl | rfl | rfl | rfl | rfl | rfl | rfl | rfl | rfl | rfl | rfl | rfl | rfl | rfl | rfl <;> rfl
theorem r_skips_v (op a b c i v : Int) (hii : InInt i) (y : Bool) (hy : skipsB op a b c i = y) (hv : skipsV op a b c i = v) (w : World) : Calls Tryz.prog 18 #[ins op a b c i] w fun e w' => e = .returned (.tuple #[.int .i64 v, .bool y]) ∧ Below w.heap.size w w' := by
  show Calls _ _ #[.agg _] _ _
  unfold skipsV at hv
  rw [hy] at hv
  unfold skipsB at hy
  rcases chk_cases op a b c i with ⟨h0, h1, h2⟩ | h0 | h0
  · obtain ⟨k, rfl⟩ := Int.eq_ofNat_of_zero_le h1
    have hk : k < 18 := by omega
    rw [decide_eq_true h0, Bool.true_and, skips_has k hk] at hy
    have HV := Lib.hid h0
    have HY := Lib.hid hy
    clear h0 hy h1 h2
    cases y
    all_goals
      simp only [if_true, Bool.false_eq_true, if_false] at hv
      subst hv
      go_enter Tryz.func18, Tryz.ntmps18
      go_wp2_with fail
      refine (r_check_v hii HV.out _).mono ?_
      rintro e w1 ⟨rfl, hb1⟩
      have hm1 : Mem w1 w.heap.size 40 (boxed k a b c i) := (Mem.new w 40 (boxed k a b c i)).below hb1 (by simp)
      obtain ⟨z0, z1, z2, z3, z4⟩ := boxed_cells hm1
      have hbw := (below_new w (.cells (boxed k a b c i) 40)).trans (hb1.mono (by simp))
      have hlt1 := hm1.lt
      clear hb1
      go_wp2_with fail
      refine (r_form k hk _).mono ?_
      rintro e w2 ⟨rfl, hb2⟩
      have hm2 := hm1.below hb2 hlt1
      obtain ⟨y0, y1, y2, y3, y4⟩ := boxed_cells hm2
      have hbw2 := hbw.trans (hb2.mono (by omega))
      clear hb2 hm1 hm2
      go_wp2_with (go_at_call 45; (with_reducible refine (r_hasF k 106 106 rfl _ HY.out _).mono ?_); rintro e w3 ⟨rfl, rfl⟩)
      go_ret2
      exact ⟨rfl, hbw2⟩
  all_goals
    rw [decide_eq_false (by omega : ¬ chk op a b c i = 0), Bool.false_and] at hy
    subst hy
    rw [if_neg (by simp)] at hv
    subst hv
    have HV := Lib.hid h0
    clear h0
    go_enter Tryz.func18, Tryz.ntmps18
    go_wp2_with (go_at_call 40; refine (r_check_v hii HV.out _).mono ?_; rintro e w1 ⟨rfl, hb1⟩)
    go_ret2
    exact ⟨rfl, (below_new _ _).trans (hb1.mono (by simp))⟩
end Go.Proofs.YtcplhochgngedaaGreatDoor.RefB
