/-
  Contracts of package layout: Class, First; and of its reference: Class, First.
-/
import Derived.Test.YtcbhpoajpingcaaLayE
namespace Go.Proofs.Ytcbhpoajpingcaa.LayF
open Go.ChangeShapes Go.WideShapes Go.ChangeAt Go.RowKit
open PlainT BlkW LayS LayA LayB LayC LayD LayE
set_option linter.unusedVariables false
set_option maxHeartbeats 1000000

theorem a_class (q : Cfg) (b : Int) (w : World) : Calls Try.prog 114 #[cfgV q, .int .i64 b] w fun e w' => e = .returned (.int .i64 (clsV q b)) ∧ Below w.heap.size w w' := by
  have HM := Lib.hid (Mem.new w TC (cells q))
  have HB := Lib.hid (below_new w (.cells (cells q) TC))
  go_enter Try.func114, Try.ntmps114
  go_wp2_with (go_at_call 125; (with_reducible refine (a_locate q b _).mono ?_); rintro e w2 ⟨rfl, hb2⟩; have HB2 := Lib.hid (HB.out.trans (hb2.mono (by rw [size_new]; omega))); have HM2 := Lib.hid (HM.out.below hb2 HM.out.lt); clear hb2; obtain ⟨d0, d1, d2, d3, d4, d5, d6, d7, d8, d9, d10, d11, d12⟩ := box_cells HM2.out)
  go_ret
  exact ⟨rfl, HB2.out⟩
set_option maxRecDepth 100000 in
set_option maxHeartbeats 4000000 in
theorem r_class (q : Cfg) (b : Int) (w : World) : Calls Try.prog 101 #[cfgV q, .int .i64 b] w fun e w' => e = .returned (.int .i64 (clsV q b)) ∧ Below w.heap.size w w' := by
  have HM := Lib.hid (Mem.new w TC (cells q))
  have HB := Lib.hid (below_new w (.cells (cells q) TC))
  obtain ⟨c, hc⟩ : ∃ c, clsV q b = c := ⟨_, rfl⟩
  rw [hc]
  unfold clsV at hc
  have hbl := r_blocks q
  obtain ⟨n0, n1⟩ := blk_in q
  by_cases hin : 0 ≤ b ∧ b < blkV q
  · rw [if_pos hin] at hc
    have hval := blk_valid hin.1 hin.2
    have HV := Lib.hid hval.1
    have hb4 : b < pre q 4 := hval.2
    obtain ⟨i0, i1⟩ := hin
    have HC := Lib.hid hc
    have hfit : fits q 4 := by
      have := HV.out
      unfold Valid at this
      simp only [fits]
      omega
    obtain ⟨f0, f1, f2, f3, f4, f5, f6, f7⟩ := hfit
    have HB4 := Lib.hid hb4
    clear hval hc hb4
    generalize blkV q = n at *
    have hb64 : b ≤ 64 := by omega
    go_enter Try.func101, Try.ntmps101
    go_wp2_with (go_at_call 100; (with_reducible refine (hbl _).mono ?_); rintro e w2 ⟨rfl, hb2⟩; have HB2 := Lib.hid (HB.out.trans (hb2.mono (by rw [size_new]; omega))); have HM2 := Lib.hid (HM.out.below hb2 HM.out.lt); clear hb2; obtain ⟨d0, d1, d2, d3, d4, d5, d6, d7, d8, d9, d10, d11, d12⟩ := box_cells HM2.out)
    go_loop [1, 5] (fun bv cv => ∃ k : Nat, k ≤ 3 ∧ cv = .int .i64 k ∧ bv = .int .i64 (b - pre q k) ∧ Hid (pre q k ≤ b)) (fun _ cv => 4 - (intOf cv).toNat)
    case atStart => exact ⟨0, by omega, rfl, int_eq (by simp only [pre]; omega), Lib.hid i0⟩
    case round =>
      obtain ⟨k, hk, rfl, rfl, hpk⟩ := hrel
      have hk' : k = 0 ∨ k = 1 ∨ k = 2 ∨ k = 3 := by omega
      rcases hk' with rfl | rfl | rfl | rfl
      · have p0 : 0 ≤ pre q 0 := by simp only [pre] <;> omega
        have p1 : pre q 0 ≤ 256 := by simp only [pre] <;> omega
        have p4 : pre q 0 ≤ b := hpk.out
        have HPE := Lib.hid (show pre q 1 = pre q 0 + q.c0 by simp only [pre] <;> omega)
        by_cases hlt : b < pre q 1
        · have hl2 : b - pre q 0 < q.c0 := by have := HPE.out; omega
          have HD := Lib.hid (loc_done HV.out (k := 0) (by omega) p4 hlt)
          clear hlt
          go_wp2
          go_ret
          exact ⟨by rw [← HC.out, HD.out.1] <;> rfl, HB2.out⟩
        · have hl2 : q.c0 ≤ b - pre q 0 := by have := HPE.out; omega
          have HN := Lib.hid (show pre q 1 ≤ b by omega)
          clear hlt
          go_wp2
          go_round
          case rel => exact ⟨1, by omega, rfl, int_eq (by have := HPE.out; omega), HN⟩
          case measure => simp [intOf]
      · have p0 : 0 ≤ pre q 1 := by simp only [pre] <;> omega
        have p1 : pre q 1 ≤ 256 := by simp only [pre] <;> omega
        have p4 : pre q 1 ≤ b := hpk.out
        have HPE := Lib.hid (show pre q 2 = pre q 1 + q.c1 by simp only [pre] <;> omega)
        by_cases hlt : b < pre q 2
        · have hl2 : b - pre q 1 < q.c1 := by have := HPE.out; omega
          have HD := Lib.hid (loc_done HV.out (k := 1) (by omega) p4 hlt)
          clear hlt
          go_wp2
          go_ret
          exact ⟨by rw [← HC.out, HD.out.1] <;> rfl, HB2.out⟩
        · have hl2 : q.c1 ≤ b - pre q 1 := by have := HPE.out; omega
          have HN := Lib.hid (show pre q 2 ≤ b by omega)
          clear hlt
          go_wp2
          go_round
          case rel => exact ⟨2, by omega, rfl, int_eq (by have := HPE.out; omega), HN⟩
          case measure => simp [intOf]
      · have p0 : 0 ≤ pre q 2 := by simp only [pre] <;> omega
        have p1 : pre q 2 ≤ 256 := by simp only [pre] <;> omega
        have p4 : pre q 2 ≤ b := hpk.out
        have HPE := Lib.hid (show pre q 3 = pre q 2 + q.c2 by simp only [pre] <;> omega)
        by_cases hlt : b < pre q 3
        · have hl2 : b - pre q 2 < q.c2 := by have := HPE.out; omega
          have HD := Lib.hid (loc_done HV.out (k := 2) (by omega) p4 hlt)
          clear hlt
          go_wp2
          go_ret
          exact ⟨by rw [← HC.out, HD.out.1] <;> rfl, HB2.out⟩
        · have hl2 : q.c2 ≤ b - pre q 2 := by have := HPE.out; omega
          have HN := Lib.hid (show pre q 3 ≤ b by omega)
          clear hlt
          go_wp2
          go_round
          case rel => exact ⟨3, by omega, rfl, int_eq (by have := HPE.out; omega), HN⟩
          case measure => simp [intOf]
      · have p0 : 0 ≤ pre q 3 := by simp only [pre] <;> omega
        have p1 : pre q 3 ≤ 256 := by simp only [pre] <;> omega
        have p4 : pre q 3 ≤ b := hpk.out
        have HPE := Lib.hid (show pre q 4 = pre q 3 + q.c3 by simp only [pre] <;> omega)
        by_cases hlt : b < pre q 4
        · have hl2 : b - pre q 3 < q.c3 := by have := HPE.out; omega
          have HD := Lib.hid (loc_done HV.out (k := 3) (by omega) p4 hlt)
          clear hlt
          go_wp2
          go_ret
          exact ⟨by rw [← HC.out, HD.out.1] <;> rfl, HB2.out⟩
        · exact absurd HB4.out (by simpa using hlt)
  · rw [if_neg hin] at hc
    subst hc
    by_cases hb0 : b < 0
    · clear hin
      go_enter Try.func101, Try.ntmps101
      go_wp2
      go_ret
      exact ⟨rfl, HB.out⟩
    · have hb1 : blkV q ≤ b := by omega
      clear hin
      generalize blkV q = n at *
      go_enter Try.func101, Try.ntmps101
      go_wp2_with (go_at_call 100; (with_reducible refine (hbl _).mono ?_); rintro e w2 ⟨rfl, hb2⟩; have HB2 := Lib.hid (HB.out.trans (hb2.mono (by rw [size_new]; omega))); have HM2 := Lib.hid (HM.out.below hb2 HM.out.lt); clear hb2; obtain ⟨d0, d1, d2, d3, d4, d5, d6, d7, d8, d9, d10, d11, d12⟩ := box_cells HM2.out)
      go_ret
      exact ⟨rfl, HB2.out⟩
theorem cls_of {q : Cfg} {i : Int} (h0 : 0 ≤ i) (h1 : i < blkV q) : clsV q i = clsN q i := by
  unfold clsV
  rw [if_pos ⟨h0, h1⟩]
theorem fst_of {q : Cfg} {i : Int} (h0 : 0 ≤ i) (h1 : i < blkV q) : fstV q i = fstN q i := by
  unfold fstV
  rw [if_pos ⟨h0, h1⟩]
theorem blk_of {q : Cfg} (h : Valid q) : blkV q = q.c0 + q.c1 + q.c2 + q.c3 := by
  unfold blkV
  rw [if_pos (chk_iff.2 h)]
end Go.Proofs.Ytcbhpoajpingcaa.LayF
