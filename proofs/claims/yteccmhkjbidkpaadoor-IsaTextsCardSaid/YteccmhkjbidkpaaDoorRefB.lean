/-
  Contracts of the reference of layer 3: Uses, Sets, Place, Skips, Format.
-/
import Derived.Test.YteccmhkjbidkpaaDoorRefA
namespace Go.Proofs.YteccmhkjbidkpaaDoor.RefB
open Go.ChangeShapes Go.WideShapes Go.ChangeAt Go.RowKit
open PlainT IsaE IsaS BlkW IsaA IsaB IsaF RefA
set_option linter.unusedVariables false
set_option maxHeartbeats 400000
set_option maxRecDepth 100000

theorem twoU_one (x : Int) : twoU [x] = [x] := by
  unfold twoU
  rw [List.mergeSort_singleton]
  simp [Lib.compact, Lib.compactUpTo, Lib.keeps, List.range_succ]
theorem ms_le (x y : Int) (h : x ≤ y) : [x, y].mergeSort (fun a b => decide (a ≤ b)) = [x, y] := by
  unfold List.mergeSort
  simp [List.MergeSort.Internal.splitInTwo, h]
theorem ms_gt (x y : Int) (h : y < x) : [x, y].mergeSort (fun a b => decide (a ≤ b)) = [y, x] := by
  unfold List.mergeSort
  have : ¬ x ≤ y := by omega
  simp [List.MergeSort.Internal.splitInTwo, this]
theorem co_ne (x y : Int) (h : x ≠ y) : Lib.compact [x, y] = [x, y] := by
  simp [Lib.compact, Lib.compactUpTo, Lib.keeps, List.range_succ, Ne.symm h]
theorem co_eq (x : Int) : Lib.compact [x, x] = [x] := by
  simp [Lib.compact, Lib.compactUpTo, Lib.keeps, List.range_succ]
theorem twoU_eq (x : Int) : twoU [x, x] = [x] := by
  unfold twoU
  rw [ms_le x x (Int.le_refl _), co_eq]
theorem twoU_lt (x y : Int) (h : x < y) : twoU [x, y] = [x, y] := by
  unfold twoU
  rw [ms_le x y (by omega), co_ne x y (by omega)]
theorem twoU_gt (x y : Int) (h : y < x) : twoU [x, y] = [y, x] := by
  unfold twoU
  rw [ms_gt x y h, co_ne y x (by omega)]
theorem twoU_nil : twoU [] = [] := by
  unfold twoU
  rw [List.mergeSort_nil]
  simp [Lib.compact, Lib.compactUpTo]

theorem row_one (w : World) (x : Int) : Row (w.alloc (.cells #[.int .i64 x] 3)) (some ⟨w.heap.size, 0, none⟩) 1 [x] :=
  ⟨rfl, fun _ => ⟨w.heap.size, 0, rfl, by rw [size_new]; omega, fun i hi => by
    have : i = 0 := by omega
    subst this
    show World.cell? _ ⟨_, 0, none⟩ = _
    rw [(Mem.new w _ _).cell]; rfl⟩⟩
theorem row_two (w : World) (x y : Int) : Row (w.alloc (.cells #[.int .i64 x, .int .i64 y] 3)) (some ⟨w.heap.size, 0, none⟩) 2 [x, y] :=
  ⟨rfl, fun _ => ⟨w.heap.size, 0, rfl, by rw [size_new]; omega, fun i hi => by
    have : i = 0 ∨ i = 1 := by omega
    rcases this with rfl | rfl
    · show World.cell? _ ⟨_, 0, none⟩ = _
      rw [(Mem.new w _ _).cell]; rfl
    · show World.cell? _ ⟨_, 1, none⟩ = _
      rw [(Mem.new w _ _).cell]; rfl⟩⟩
theorem r_two (a b : Int) (w : World) : Calls Tryd.prog 36 #[.int .i64 a, .int .i64 b] w fun e w' => SliceIs w (twoU [a, b]) e w' := by
  by_cases he : a = b
  · subst he
    rw [twoU_eq]
    go_enter Tryd.func36, Tryd.ntmps36
    go_wp2
    go_ret
    exact ⟨_, 1, 1, rfl, by omega, by unfold maxLen; omega, row_one w a, below_new _ _⟩
  · have q : (a == b) = false := by rw [beq_eq_false_iff_ne]; exact he
    have e : twoU [a, b] = [min a b, max a b] := by
      by_cases hl : a < b
      · rw [twoU_lt a b hl, show min a b = a by omega, show max a b = b by omega]
      · rw [twoU_gt a b (by omega), show min a b = b by omega, show max a b = a by omega]
    rw [e]
    clear he e
    go_enter Tryd.func36, Tryd.ntmps36
    go_wp2
    go_ret
    exact ⟨_, 2, 2, rfl, by omega, by unfold maxLen; omega, row_two w _ _, below_new _ _⟩

/-! ### Uses. -/
theorem SliceIs.later {w0 w w' : World} {zs : List Int} {e : Ending} (h : SliceIs w zs e w') (hb : Below w0.heap.size w0 w) (hs : w0.heap.size ≤ w.heap.size) : SliceIs w0 zs e w' := by
  obtain ⟨A, n, c, e1, h1, h2, h3, h4⟩ := h
  exact ⟨A, n, c, e1, h1, h2, h3, hb.trans (h4.mono hs)⟩
theorem r_uses_no (op a b c i v : Int) (hii : InInt i) (hv : chk op a b c i = v) (h0 : v = 10 ∨ v = 11) (w : World) : Calls Tryd.prog 15 #[ins op a b c i] w fun e w' => SliceIs w [] e w' := by
  show Calls _ _ #[.agg _] _ _
  have HV := Lib.hid hv
  clear hv
  rcases h0 with rfl | rfl
  all_goals
    go_enter Tryd.func15, Tryd.ntmps15
    go_wp2_with (go_at_call 12; refine (r_check_v hii HV.out _).mono ?_; rintro e w1 ⟨rfl, hb1⟩)
    go_ret
    exact SliceIs.nil ((below_new _ _).trans (hb1.mono (by simp)))
theorem fin0 {w w' : World} {k : Nat} {a b c : Int} (e : vals k a b c = []) (hb : Below w.heap.size w w') : SliceIs w (twoU (vals k a b c)) (.returned (.slice none 0 0)) w' := by
  rw [e, twoU_nil]
  exact SliceIs.nil hb
theorem fin1 {w w1 : World} {k : Nat} {a b c x : Int} (e : vals k a b c = [x]) (hb : Below w.heap.size w w1) : SliceIs w (twoU (vals k a b c)) (.returned (.slice (some ⟨w1.heap.size, 0, none⟩) 1 1)) (w1.alloc (.cells #[.int .i64 x] 3)) := by
  rw [e, twoU_one]
  exact ⟨_, 1, 1, rfl, by omega, by unfold maxLen; omega, row_one w1 _, hb.alloc hb.size _⟩
theorem fin2 {w w1 w2 : World} {k : Nat} {a b c x y : Int} {A : Option Addr} {n cc : Nat} (e : vals k a b c = [x, y]) (hb : Below w.heap.size w w1) (h1 : n ≤ cc) (h2 : cc ≤ maxLen) (h3 : Row w2 A n (twoU [x, y])) (h4 : Below w1.heap.size w1 w2) : SliceIs w (twoU (vals k a b c)) (.returned (.slice A n cc)) w2 := by
  rw [e]
  exact ⟨A, n, cc, rfl, h1, h2, h3, hb.trans (h4.mono hb.size)⟩
theorem r_uses_yes (k : Nat) (hk : k < 18) (a b c i : Int) (hii : InInt i) (hv : chk k a b c i = 0) (w : World) : Calls Tryd.prog 15 #[ins k a b c i] w fun e w' => SliceIs w (twoU (vals k a b c)) e w' := by
  have HV := Lib.hid hv
  clear hv
  rcases op_cases hk with rfl | rfl | rfl | rfl | rfl | rfl | rfl | rfl | rfl | rfl | rfl | rfl | rfl | rfl | rfl | rfl | rfl | rfl
  all_goals
    show Calls _ _ #[.agg _] _ _
    clear hk
    go_enter Tryd.func15, Tryd.ntmps15
    go_wp2_with fail
    refine (r_check_v hii HV.out _).mono ?_
    rintro e w1 ⟨rfl, hb1⟩
    have hm1 : Mem w1 w.heap.size 23 (boxed _ a b c i) := (Mem.new w 23 (boxed _ a b c i)).below hb1 (by simp)
    obtain ⟨z0, z1, z2, z3, z4⟩ := boxed_cells hm1
    have hbw := (below_new w (.cells (boxed _ a b c i) 23)).trans (hb1.mono (by simp))
    have hlt1 := hm1.lt
    clear hb1 hm1
    go_wp2_with (go_at_call 36; (first | (with_reducible refine (r_two a b _).mono ?_) | (with_reducible refine (r_two b c _).mono ?_)); rintro e w2 hs2; obtain ⟨A, n, cc, rfl, h1, h2, h3, h4⟩ := hs2)
    go_ret
    first
      | exact fin0 rfl hbw
      | exact fin1 rfl hbw
      | exact fin2 rfl hbw h1 h2 h3 h4
/-- The reference's Uses gives what the program's gives. -/
theorem r_uses (op a b c i : Int) (hii : InInt i) (w : World) : Calls Tryd.prog 15 #[ins op a b c i] w fun e w' => SliceIs w (usesV op a b c i) e w' := by
  rcases chk_cases op a b c i with ⟨h0, h1, h2⟩ | h0 | h0
  · obtain ⟨k, rfl⟩ := Int.eq_ofNat_of_zero_le h1
    rw [usesV_ok h0]
    exact r_uses_yes k (by omega) a b c i hii h0 w
  · rw [usesV_no (by omega)]
    exact r_uses_no op a b c i 10 hii h0 (.inl rfl) w
  · rw [usesV_no (by omega)]
    exact r_uses_no op a b c i 11 hii h0 (.inr rfl) w

/-! ### Sets, Place, Skips. -/
theorem r_sets_v (op a b c i v : Int) (hii : InInt i) (hv : setsV op a b c i = v) (w : World) : Calls Tryd.prog 17 #[ins op a b c i] w fun e w' => e = .returned (.int .i64 v) ∧ Below w.heap.size w w' := by
  unfold setsV at hv
  rcases chk_cases op a b c i with ⟨h0, h1, h2⟩ | h0 | h0
  · obtain ⟨k, rfl⟩ := Int.eq_ofNat_of_zero_le h1
    have hk : k < 18 := by omega
    have HV := Lib.hid h0
    rw [if_pos h0, Int.toNat_natCast] at hv
    clear h0 h1 h2
    rcases op_cases hk with rfl | rfl | rfl | rfl | rfl | rfl | rfl | rfl | rfl | rfl | rfl | rfl | rfl | rfl | rfl | rfl | rfl | rfl
    all_goals
      show Calls _ _ #[.agg _] _ _
      simp [opSets] at hv
      subst hv
      clear hk
      go_enter Tryd.func17, Tryd.ntmps17
      go_wp2_with fail
      refine (r_check_v hii HV.out _).mono ?_
      rintro e w1 ⟨rfl, hb1⟩
      have hm1 : Mem w1 w.heap.size 23 (boxed _ _ b c i) := (Mem.new w 23 (boxed _ _ b c i)).below hb1 (by simp)
      obtain ⟨z0, z1, z2, z3, z4⟩ := boxed_cells hm1
      have hbw := (below_new w (.cells (boxed _ _ b c i) 23)).trans (hb1.mono (by simp))
      clear hb1 hm1
      go_wp2
      go_ret
      exact ⟨rfl, hbw⟩
  all_goals
    show Calls _ _ #[.agg _] _ _
    rw [if_neg (by omega)] at hv
    subst hv
    have HV := Lib.hid h0
    clear h0
    go_enter Tryd.func17, Tryd.ntmps17
    go_wp2_with (go_at_call 12; refine (r_check_v hii HV.out _).mono ?_; rintro e w1 ⟨rfl, hb1⟩)
    go_ret
    exact ⟨rfl, (below_new _ _).trans (hb1.mono (by simp))⟩
theorem r_place_v (op a b c i v : Int) (hii : InInt i) (hv : placeV op a b c i = v) (w : World) : Calls Tryd.prog 19 #[ins op a b c i] w fun e w' => e = .returned (.int .i64 v) ∧ Below w.heap.size w w' := by
  unfold placeV at hv
  rcases chk_cases op a b c i with ⟨h0, h1, h2⟩ | h0 | h0
  · obtain ⟨k, rfl⟩ := Int.eq_ofNat_of_zero_le h1
    have hk : k < 18 := by omega
    have HV := Lib.hid h0
    rw [if_pos h0, Int.toNat_natCast] at hv
    clear h0 h1 h2
    rcases op_cases hk with rfl | rfl | rfl | rfl | rfl | rfl | rfl | rfl | rfl | rfl | rfl | rfl | rfl | rfl | rfl | rfl | rfl | rfl
    all_goals
      show Calls _ _ #[.agg _] _ _
      simp [opPlaces] at hv
      subst hv
      clear hk
      go_enter Tryd.func19, Tryd.ntmps19
      go_wp2_with fail
      refine (r_check_v hii HV.out _).mono ?_
      rintro e w1 ⟨rfl, hb1⟩
      have hm1 : Mem w1 w.heap.size 23 (boxed _ a b c i) := (Mem.new w 23 (boxed _ a b c i)).below hb1 (by simp)
      obtain ⟨z0, z1, z2, z3, z4⟩ := boxed_cells hm1
      have hbw := (below_new w (.cells (boxed _ a b c i) 23)).trans (hb1.mono (by simp))
      clear hb1 hm1
      go_wp2
      go_ret
      exact ⟨rfl, hbw⟩
  all_goals
    show Calls _ _ #[.agg _] _ _
    rw [if_neg (by omega)] at hv
    subst hv
    have HV := Lib.hid h0
    clear h0
    go_enter Tryd.func19, Tryd.ntmps19
    go_wp2_with (go_at_call 12; refine (r_check_v hii HV.out _).mono ?_; rintro e w1 ⟨rfl, hb1⟩)
    go_ret
    exact ⟨rfl, (below_new _ _).trans (hb1.mono (by simp))⟩
theorem skips_has (k : Nat) (hk : k < 18) : (decide ((k : Int) = 4) || (decide ((k : Int) = 5) || decide ((k : Int) = 6))) = hasF k 106 := by
  rcases op_cases hk with rfl | rfl | rfl | rfl | rfl | rfl | rfl | rfl | rfl | rfl | rfl | rfl | rfl | rfl | rfl | rfl | rfl | rfl <;> rfl
theorem r_skips_v (op a b c i v : Int) (hii : InInt i) (y : Bool) (hy : skipsB op a b c i = y) (hv : skipsV op a b c i = v) (w : World) : Calls Tryd.prog 10 #[ins op a b c i] w fun e w' => e = .returned (.tuple #[.int .i64 v, .bool y]) ∧ Below w.heap.size w w' := by
  show Calls _ _ #[.agg _] _ _
  unfold skipsV at hv
  rw [hy] at hv
  unfold skipsB at hy
  rcases chk_cases op a b c i with ⟨h0, h1, h2⟩ | h0 | h0
  · obtain ⟨k, rfl⟩ := Int.eq_ofNat_of_zero_le h1
    have hk : k < 18 := by omega
    rw [decide_eq_true h0, Bool.true_and, skips_has k hk] at hy
    have HV := Lib.hid h0
    have HY := Lib.hid hy
    clear h0 hy h1 h2
    cases y
    all_goals
      simp only [if_true, Bool.false_eq_true, if_false] at hv
      subst hv
      go_enter Tryd.func10, Tryd.ntmps10
      go_wp2_with fail
      refine (r_check_v hii HV.out _).mono ?_
      rintro e w1 ⟨rfl, hb1⟩
      have hm1 : Mem w1 w.heap.size 23 (boxed k a b c i) := (Mem.new w 23 (boxed k a b c i)).below hb1 (by simp)
      obtain ⟨z0, z1, z2, z3, z4⟩ := boxed_cells hm1
      have hbw := (below_new w (.cells (boxed k a b c i) 23)).trans (hb1.mono (by simp))
      have hlt1 := hm1.lt
      clear hb1
      go_wp2_with fail
      refine (r_form k hk _).mono ?_
      rintro e w2 ⟨rfl, hb2⟩
      have hm2 := hm1.below hb2 hlt1
      obtain ⟨y0, y1, y2, y3, y4⟩ := boxed_cells hm2
      have hbw2 := hbw.trans (hb2.mono (by omega))
      clear hb2 hm1 hm2
      go_wp2_with (go_at_call 28; (with_reducible refine (r_hasF k 106 106 rfl _ HY.out _).mono ?_); rintro e w3 ⟨rfl, rfl⟩)
      go_ret2
      exact ⟨rfl, hbw2⟩
  all_goals
    rw [decide_eq_false (by omega : ¬ chk op a b c i = 0), Bool.false_and] at hy
    subst hy
    rw [if_neg (by simp)] at hv
    subst hv
    have HV := Lib.hid h0
    clear h0
    go_enter Tryd.func10, Tryd.ntmps10
    go_wp2_with (go_at_call 12; refine (r_check_v hii HV.out _).mono ?_; rintro e w1 ⟨rfl, hb1⟩)
    go_ret2
    exact ⟨rfl, (below_new _ _).trans (hb1.mono (by simp))⟩
end Go.Proofs.YteccmhkjbidkpaaDoor.RefB
