/-
  Contracts of package layout: Class, First; and of its reference: Class, First.
-/
import Derived.Test.YtnakmajnljpblaaLayE
namespace Go.Proofs.Ytnakmajnljpblaa.LayF
open Go.ChangeShapes Go.WideShapes Go.ChangeAt Go.RowKit
open PlainT BlkW LayS LayA LayB LayC LayD LayE
set_option linter.unusedVariables false
set_option maxHeartbeats 1000000

theorem a_class (q : Cfg) (b : Int) (w : World) : Calls Try.prog 83 #[cfgV q, .int .i64 b] w fun e w' => e = .returned (.int .i64 (clsV q b)) ∧ Below w.heap.size w w' := by
  have HM := Lib.hid (Mem.new w TC (cells q))
  have HB := Lib.hid (below_new w (.cells (cells q) TC))
  go_enter Try.func83, Try.ntmps83
  go_wp2_with (go_at_call 116; (with_reducible refine (a_locate q b _).mono ?_); rintro e w2 ⟨rfl, hb2⟩; have HB2 := Lib.hid (HB.out.trans (hb2.mono (by rw [size_new]; omega))); have HM2 := Lib.hid (HM.out.below hb2 HM.out.lt); clear hb2; obtain ⟨d0, d1, d2, d3, d4, d5, d6, d7, d8, d9, d10, d11, d12⟩ := box_cells HM2.out)
  go_ret
  exact ⟨rfl, HB2.out⟩
theorem a_first (q : Cfg) (b : Int) (w : World) : Calls Try.prog 84 #[cfgV q, .int .i64 b] w fun e w' => e = .returned (.int .i64 (fstV q b)) ∧ Below w.heap.size w w' := by
  have HM := Lib.hid (Mem.new w TC (cells q))
  have HB := Lib.hid (below_new w (.cells (cells q) TC))
  go_enter Try.func84, Try.ntmps84
  go_wp2_with (go_at_call 116; (with_reducible refine (a_locate q b _).mono ?_); rintro e w2 ⟨rfl, hb2⟩; have HB2 := Lib.hid (HB.out.trans (hb2.mono (by rw [size_new]; omega))); have HM2 := Lib.hid (HM.out.below hb2 HM.out.lt); clear hb2; obtain ⟨d0, d1, d2, d3, d4, d5, d6, d7, d8, d9, d10, d11, d12⟩ := box_cells HM2.out)
  go_ret
  exact ⟨rfl, HB2.out⟩
set_option maxRecDepth 100000 in
set_option maxHeartbeats 4000000 in
theorem r_class (q : Cfg) (b : Int) (w : World) : Calls Try.prog 14 #[cfgV q, .int .i64 b] w fun e w' => e = .returned (.int .i64 (clsV q b)) ∧ Below w.heap.size w w' := by
  have HM := Lib.hid (Mem.new w TC (cells q))
  have HB := Lib.hid (below_new w (.cells (cells q) TC))
  obtain ⟨c, hc⟩ : ∃ c, clsV q b = c := ⟨_, rfl⟩
  rw [hc]
  unfold clsV at hc
  have hbl := r_blocks q
  obtain ⟨n0, n1⟩ := blk_in q
  by_cases hin : 0 ≤ b ∧ b < blkV q
  · rw [if_pos hin] at hc
    have hval := blk_valid hin.1 hin.2
    have HV := Lib.hid hval.1
    have hb4 : b < pre q 4 := hval.2
    obtain ⟨i0, i1⟩ := hin
    have HC := Lib.hid hc
    have hfit : fits q 4 := by
      have := HV.out
      unfold Valid at this
      simp only [fits]
      omega
    obtain ⟨f0, f1, f2, f3, f4, f5, f6, f7⟩ := hfit
    have HB4 := Lib.hid hb4
    clear hval hc hb4
    generalize blkV q = n at *
    have hb64 : b ≤ 64 := by omega
    go_enter Try.func14, Try.ntmps14
    go_wp2_with (go_at_call 65; (with_reducible refine (hbl _).mono ?_); rintro e w2 ⟨rfl, hb2⟩; have HB2 := Lib.hid (HB.out.trans (hb2.mono (by rw [size_new]; omega))); have HM2 := Lib.hid (HM.out.below hb2 HM.out.lt); clear hb2; obtain ⟨d0, d1, d2, d3, d4, d5, d6, d7, d8, d9, d10, d11, d12⟩ := box_cells HM2.out)
    go_loop [1, 5] (fun bv cv => ∃ k : Nat, k ≤ 3 ∧ cv = .int .i64 k ∧ bv = .int .i64 (b - pre q k) ∧ Hid (pre q k ≤ b)) (fun _ cv => 4 - (intOf cv).toNat)
    case atStart => exact ⟨0, by omega, rfl, int_eq (by simp only [pre]; omega), Lib.hid i0⟩
    case round =>
      obtain ⟨k, hk, rfl, rfl, hpk⟩ := hrel
      have hk' : k = 0 ∨ k = 1 ∨ k = 2 ∨ k = 3 := by omega
      rcases hk' with rfl | rfl | rfl | rfl
      · have p0 : 0 ≤ pre q 0 := by simp only [pre] <;> omega
        have p1 : pre q 0 ≤ 256 := by simp only [pre] <;> omega
        have p4 : pre q 0 ≤ b := hpk.out
        have HPE := Lib.hid (show pre q 1 = pre q 0 + q.c0 by simp only [pre] <;> omega)
        by_cases hlt : b < pre q 1
        · have hl2 : b - pre q 0 < q.c0 := by have := HPE.out; omega
          have HD := Lib.hid (loc_done HV.out (k := 0) (by omega) p4 hlt)
          clear hlt
          go_wp2
          go_ret
          exact ⟨by rw [← HC.out, HD.out.1] <;> rfl, HB2.out⟩
        · have hl2 : q.c0 ≤ b - pre q 0 := by have := HPE.out; omega
          have HN := Lib.hid (show pre q 1 ≤ b by omega)
          clear hlt
          go_wp2
          go_round
          case rel => exact ⟨1, by omega, rfl, int_eq (by have := HPE.out; omega), HN⟩
          case measure => simp [intOf]
      · have p0 : 0 ≤ pre q 1 := by simp only [pre] <;> omega
        have p1 : pre q 1 ≤ 256 := by simp only [pre] <;> omega
        have p4 : pre q 1 ≤ b := hpk.out
        have HPE := Lib.hid (show pre q 2 = pre q 1 + q.c1 by simp only [pre] <;> omega)
        by_cases hlt : b < pre q 2
        · have hl2 : b - pre q 1 < q.c1 := by have := HPE.out; omega
          have HD := Lib.hid (loc_done HV.out (k := 1) (by omega) p4 hlt)
          clear hlt
          go_wp2
          go_ret
          exact ⟨by rw [← HC.out, HD.out.1] <;> rfl, HB2.out⟩
        · have hl2 : q.c1 ≤ b - pre q 1 := by have := HPE.out; omega
          have HN := Lib.hid (show pre q 2 ≤ b by omega)
          clear hlt
          go_wp2
          go_round
          case rel => exact ⟨2, by omega, rfl, int_eq (by have := HPE.out; omega), HN⟩
          case measure => simp [intOf]
      · have p0 : 0 ≤ pre q 2 := by simp only [pre] <;> omega
        have p1 : pre q 2 ≤ 256 := by simp only [pre] <;> omega
        have p4 : pre q 2 ≤ b := hpk.out
        have HPE := Lib.hid (show pre q 3 = pre q 2 + q.c2 by simp only [pre] <;> omega)
        by_cases hlt : b < pre q 3
        · have hl2 : b - pre q 2 < q.c2 := by have := HPE.out; omega
          have HD := Lib.hid (loc_done HV.out (k := 2) (by omega) p4 hlt)
          clear hlt
          go_wp2
          go_ret
          exact ⟨by rw [← HC.out, HD.out.1] <;> rfl, HB2.out⟩
        · have hl2 : q.c2 ≤ b - pre q 2 := by have := HPE.out; omega
          have HN := Lib.hid (show pre q 3 ≤ b by omega)
          clear hlt
          go_wp2
          go_round
          case rel => exact ⟨3, by omega, rfl, int_eq (by have := HPE.out; omega), HN⟩
          case measure => simp [intOf]
      · have p0 : 0 ≤ pre q 3 := by simp only [pre] <;> omega
        have p1 : pre q 3 ≤ 256 := by simp only [pre] <;> omega
        have p4 : pre q 3 ≤ b := hpk.out
        have HPE := Lib.hid (show pre q 4 = pre q 3 + q.c3 by simp only [pre] <;> omega)
        by_cases hlt : b < pre q 4
        · have hl2 : b - pre q 3 < q.c3 := by have := HPE.out; omega
          have HD := Lib.hid (loc_done HV.out (k := 3) (by omega) p4 hlt)
          clear hlt
          go_wp2
          go_ret
          exact ⟨by rw [← HC.out, HD.out.1] <;> rfl, HB2.out⟩
        · exact absurd HB4.out (by simpa using hlt)
  · rw [if_neg hin] at hc
    subst hc
    by_cases hb0 : b < 0
    · clear hin
      go_enter Try.func14, Try.ntmps14
      go_wp2
      go_ret
      exact ⟨rfl, HB.out⟩
    · have hb1 : blkV q ≤ b := by omega
      clear hin
      generalize blkV q = n at *
      go_enter Try.func14, Try.ntmps14
      go_wp2_with (go_at_call 65; (with_reducible refine (hbl _).mono ?_); rintro e w2 ⟨rfl, hb2⟩; have HB2 := Lib.hid (HB.out.trans (hb2.mono (by rw [size_new]; omega))); have HM2 := Lib.hid (HM.out.below hb2 HM.out.lt); clear hb2; obtain ⟨d0, d1, d2, d3, d4, d5, d6, d7, d8, d9, d10, d11, d12⟩ := box_cells HM2.out)
      go_ret
      exact ⟨rfl, HB2.out⟩
theorem cls_of {q : Cfg} {i : Int} (h0 : 0 ≤ i) (h1 : i < blkV q) : clsV q i = clsN q i := by
  unfold clsV
  rw [if_pos ⟨h0, h1⟩]
theorem fst_of {q : Cfg} {i : Int} (h0 : 0 ≤ i) (h1 : i < blkV q) : fstV q i = fstN q i := by
  unfold fstV
  rw [if_pos ⟨h0, h1⟩]
theorem blk_of {q : Cfg} (h : Valid q) : blkV q = q.c0 + q.c1 + q.c2 + q.c3 := by
  unfold blkV
  rw [if_pos (chk_iff.2 h)]
set_option maxRecDepth 100000 in
set_option maxHeartbeats 4000000 in
theorem r_first (q : Cfg) (b : Int) (w : World) : Calls Try.prog 85 #[cfgV q, .int .i64 b] w fun e w' => e = .returned (.int .i64 (fstV q b)) ∧ Below w.heap.size w w' := by
  have HM := Lib.hid (Mem.new w TC (cells q))
  have HB := Lib.hid (below_new w (.cells (cells q) TC))
  obtain ⟨c, hc⟩ : ∃ c, fstV q b = c := ⟨_, rfl⟩
  rw [hc]
  have hbl := r_blocks q
  obtain ⟨n0, n1⟩ := blk_in q
  by_cases hin : 0 ≤ b ∧ b < blkV q
  · have hval := blk_valid hin.1 hin.2
    have HV := Lib.hid hval.1
    obtain ⟨i0, i1⟩ := hin
    have HC := Lib.hid ((fst_of i0 i1).symm.trans hc)
    have HE := Lib.hid (blk_of hval.1)
    have HN := Lib.hid i1
    obtain ⟨n, hn⟩ : ∃ n, blkV q = n := ⟨_, rfl⟩
    rw [hn] at hbl i1 n0 n1
    have HNE := Lib.hid hn
    clear hval hc hn
    have hb64 : b ≤ 64 := by omega
    obtain ⟨m, rfl⟩ : ∃ m : Nat, b = m := ⟨b.toNat, by omega⟩
    go_enter Try.func85, Try.ntmps85
    go_wp2_with (go_at_call 65; (with_reducible refine (hbl _).mono ?_); rintro e w2 ⟨rfl, hb2⟩; have HB2 := Lib.hid (HB.out.trans (hb2.mono (by rw [size_new]; omega))); have HM2 := Lib.hid (HM.out.below hb2 HM.out.lt); clear hb2; obtain ⟨d0, d1, d2, d3, d4, d5, d6, d7, d8, d9, d10, d11, d12⟩ := box_cells HM2.out)
    go_loopw [5, 6] (fun av iv wr => ∃ i : Nat, i ≤ m ∧ iv = .int .i64 i ∧ av = .int .i64 (fstN q i) ∧ Mem wr w.heap.size TC (cells q) ∧ Below w.heap.size w wr) (fun _ iv _ => m - (intOf iv).toNat)
    case atStart => exact ⟨0, by omega, rfl, int_eq (fst_zero HV.out (by have := HE.out; have := HN.out; omega)).symm, HM2.out, HB2.out⟩
    case round =>
      obtain ⟨i, hi, rfl, rfl, hm, hb⟩ := hrel
      have HMr := Lib.hid hm
      have HBr := Lib.hid hb
      clear hm hb d0 d1 d2 d3 d4 d5 d6 d7 d8 d9 d10 d11 d12
      obtain ⟨d0, d1, d2, d3, d4, d5, d6, d7, d8, d9, d10, d11, d12⟩ := box_cells HMr.out
      have hfi := fst_in HV.out (i := (i : Int)) (by omega) (by have := HE.out; have := HN.out; omega)
      obtain ⟨_, _, a1, a2, a3⟩ := hfi
      by_cases hlt : i < m
      · have hcl := r_class q i
        rw [cls_of (by omega) (by have := HNE.out; omega)] at hcl
        have HST := Lib.hid (fst_step HV.out (i := (i : Int)) (by omega) (by have := HE.out; have := HNE.out; omega))
        have hc3 := cls_lt q i
        have HCL := Lib.hid (show clsN q i = 0 ∨ clsN q i = 1 ∨ clsN q i = 2 ∨ clsN q i = 3 by omega)
        obtain ⟨cc, hcc⟩ : ∃ cc, clsN q i = cc := ⟨_, rfl⟩
        rw [hcc] at hcl HST HCL a1 a3
        clear hc3 hcc
        have hcl3 := HCL.out
        rcases hcl3 with rfl | rfl | rfl | rfl
        all_goals
          first | rw [p2_0] at a1 a3 | rw [p2_1] at a1 a3 | rw [p2_2] at a1 a3 | rw [p2_3] at a1 a3
          clear HCL
          have hcl' : ∀ (w : World), Calls Try.prog 14 #[cfgV q, .int .i64 i] w fun e w' => e = .returned (.int .i64 _) ∧ Below w.heap.size w w' := hcl
          clear hcl
          simp only [Int.cast_ofNat_Int] at hcl'
          go_wp2_with (go_at_call 14; (with_reducible refine (hcl' _).mono ?_); rintro e w3 ⟨rfl, hb3⟩; have HB3 := Lib.hid (HBr.out.trans (hb3.mono HBr.out.size)); have HM3 := Lib.hid (HMr.out.below hb3 HMr.out.lt); clear hb3)
          go_roundw
          case rel => exact ⟨i + 1, by omega, by go_num, int_eq (by rw [show ((i + 1 : Nat) : Int) = (i : Int) + 1 from by omega, HST.out] <;> rfl), HM3.out, HB3.out⟩
          case measure => simp [intOf]; omega
      · obtain rfl : i = m := by omega
        go_wp2
        go_ret
        exact ⟨by rw [← HC.out]; rfl, HBr.out⟩
  · have hc' := hc
    unfold fstV at hc'
    rw [if_neg hin] at hc'
    subst hc'
    clear hc
    by_cases hb0 : b < 0
    · clear hin
      go_enter Try.func85, Try.ntmps85
      go_wp2
      go_ret
      exact ⟨rfl, HB.out⟩
    · have hb1 : blkV q ≤ b := by omega
      clear hin
      generalize blkV q = n at *
      go_enter Try.func85, Try.ntmps85
      go_wp2_with (go_at_call 65; (with_reducible refine (hbl _).mono ?_); rintro e w2 ⟨rfl, hb2⟩; have HB2 := Lib.hid (HB.out.trans (hb2.mono (by rw [size_new]; omega))); have HM2 := Lib.hid (HM.out.below hb2 HM.out.lt); clear hb2; obtain ⟨d0, d1, d2, d3, d4, d5, d6, d7, d8, d9, d10, d11, d12⟩ := box_cells HM2.out)
      go_ret
      exact ⟨rfl, HB2.out⟩
end Go.Proofs.Ytnakmajnljpblaa.LayF
