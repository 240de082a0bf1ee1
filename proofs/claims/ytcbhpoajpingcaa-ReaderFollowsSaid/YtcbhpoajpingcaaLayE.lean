/-
  Contracts of package layout: locate, Class, First.
-/
import Derived.Test.YtcbhpoajpingcaaLayD
namespace Go.Proofs.Ytcbhpoajpingcaa.LayE
open Go.ChangeShapes Go.WideShapes Go.ChangeAt Go.RowKit
open PlainT BlkW LayS LayA LayB LayC LayD
set_option linter.unusedVariables false
set_option maxHeartbeats 1000000

theorem tup_eq {a b c d : Int} (h : a = c) (h2 : b = d) : Ending.returned (.tuple #[.int .i64 a, .int .i64 b]) = .returned (.tuple #[.int .i64 c, .int .i64 d]) := by rw [h, h2]
theorem in_no {q : Cfg} {b : Int} (h : ¬ (0 ≤ b ∧ b < blkV q)) : inB b 0 (blkV q - 1) = false := by
  rw [inB_not]
  omega
theorem in_yes {q : Cfg} {b : Int} (h : 0 ≤ b ∧ b < blkV q) : inB b 0 (blkV q - 1) = true := by
  rw [inB_iff]
  omega
set_option maxRecDepth 100000 in
set_option maxHeartbeats 4000000 in
theorem a_locate (q : Cfg) (b : Int) (w : World) : Calls Try.prog 125 #[cfgV q, .int .i64 b] w fun e w' => e = .returned (.tuple #[.int .i64 (clsV q b), .int .i64 (fstV q b)]) ∧ Below w.heap.size w w' := by
  have HM := Lib.hid (Mem.new w TC (cells q))
  have HB := Lib.hid (below_new w (.cells (cells q) TC))
  obtain ⟨c, hc⟩ : ∃ c, clsV q b = c := ⟨_, rfl⟩
  obtain ⟨f, hf⟩ : ∃ f, fstV q b = f := ⟨_, rfl⟩
  rw [hc, hf]
  unfold clsV at hc
  unfold fstV at hf
  have hbl := a_blocks q
  obtain ⟨n0, n1⟩ := blk_in q
  by_cases hin : 0 ≤ b ∧ b < blkV q
  · rw [if_pos hin] at hc hf
    have hval := blk_valid hin.1 hin.2
    have HT := Lib.hid (in_yes hin)
    have htrue := HT.out
    have HV := Lib.hid hval.1
    have hb4 : b < pre q 4 := hval.2
    obtain ⟨i0, i1⟩ := hin
    have HC := Lib.hid hc
    have HF := Lib.hid hf
    have hfit : fits q 4 := by
      have := HV.out
      unfold Valid at this
      simp only [fits]
      omega
    have hbb : 0 ≤ q.b ∧ q.b ≤ 64 := by
      have := HV.out
      unfold Valid at this
      omega
    obtain ⟨b0, b1⟩ := hbb
    obtain ⟨f0, f1, f2, f3, f4, f5, f6, f7⟩ := hfit
    have HB4 := Lib.hid hb4
    clear hval hc hf hb4
    generalize blkV q = n at *
    have hb64 : b ≤ 64 := by omega
    go_enter Try.func125, Try.ntmps125
    go_wp2_with (first | (go_at_call 95; (with_reducible refine (hbl _).mono ?_); rintro e w2 ⟨rfl, hb2⟩; have HB2 := Lib.hid (HB.out.trans (hb2.mono (by rw [size_new]; omega))); have HM2 := Lib.hid (HM.out.below hb2 HM.out.lt); clear hb2; obtain ⟨d0, d1, d2, d3, d4, d5, d6, d7, d8, d9, d10, d11, d12⟩ := box_cells HM2.out) | (go_at_call 111; (with_reducible refine (a_within _ _ _ _).mono ?_); rintro e w1 ⟨rfl, rfl⟩))
    go_loop [1, 4, 5] (fun bv cv fv => ∃ k : Nat, k ≤ 3 ∧ cv = .int .i64 k ∧ bv = .int .i64 (b - pre q k) ∧ fv = .int .i64 (q.b + preW q k) ∧ Hid (pre q k ≤ b)) (fun _ cv _ => 4 - (intOf cv).toNat)
    case atStart => exact ⟨0, by omega, rfl, int_eq (by simp only [pre]; omega), int_eq (by simp only [preW]; omega), Lib.hid i0⟩
    case round =>
      obtain ⟨k, hk, rfl, rfl, rfl, hpk⟩ := hrel
      have hk' : k = 0 ∨ k = 1 ∨ k = 2 ∨ k = 3 := by omega
      rcases hk' with rfl | rfl | rfl | rfl
      · have p0 : 0 ≤ pre q 0 := by simp only [pre] <;> omega
        have p1 : pre q 0 ≤ 256 := by simp only [pre] <;> omega
        have p2 : 0 ≤ preW q 0 := by simp only [preW] <;> omega
        have p3 : preW q 0 ≤ 960 := by simp only [preW] <;> omega
        have p4 : pre q 0 ≤ b := hpk.out
        have HPE := Lib.hid (show pre q 1 = pre q 0 + q.c0 by simp only [pre] <;> omega)
        by_cases hlt : b < pre q 1
        · have hl2 : b - pre q 0 < q.c0 := by have := HPE.out; omega
          have HD := Lib.hid (loc_done HV.out (k := 0) (by omega) p4 hlt)
          clear hlt
          go_wp2
          go_quiet (fail)
          go_wp2
          refine bodyPost_ret (results_tmp2 rfl _ _ _) rfl ?_
          exact ⟨tup_eq (by rw [← HC.out, HD.out.1] <;> rfl) (by rw [← HF.out, HD.out.2, p2_0] <;> omega), below_drewN HB2.out _⟩
        · have hl2 : q.c0 ≤ b - pre q 0 := by have := HPE.out; omega
          have HN := Lib.hid (show pre q 1 ≤ b by omega)
          clear hlt
          go_wp2
          go_round
          case rel => exact ⟨1, by omega, rfl, int_eq (by have := HPE.out; omega), int_eq (by simp only [preW] <;> omega), HN⟩
          case measure => simp [intOf]
      · have p0 : 0 ≤ pre q 1 := by simp only [pre] <;> omega
        have p1 : pre q 1 ≤ 256 := by simp only [pre] <;> omega
        have p2 : 0 ≤ preW q 1 := by simp only [preW] <;> omega
        have p3 : preW q 1 ≤ 960 := by simp only [preW] <;> omega
        have p4 : pre q 1 ≤ b := hpk.out
        have HPE := Lib.hid (show pre q 2 = pre q 1 + q.c1 by simp only [pre] <;> omega)
        by_cases hlt : b < pre q 2
        · have hl2 : b - pre q 1 < q.c1 := by have := HPE.out; omega
          have HD := Lib.hid (loc_done HV.out (k := 1) (by omega) p4 hlt)
          clear hlt
          go_wp2
          go_quiet (fail)
          go_wp2
          refine bodyPost_ret (results_tmp2 rfl _ _ _) rfl ?_
          exact ⟨tup_eq (by rw [← HC.out, HD.out.1] <;> rfl) (by rw [← HF.out, HD.out.2, p2_1] <;> omega), below_drewN HB2.out _⟩
        · have hl2 : q.c1 ≤ b - pre q 1 := by have := HPE.out; omega
          have HN := Lib.hid (show pre q 2 ≤ b by omega)
          clear hlt
          go_wp2
          go_round
          case rel => exact ⟨2, by omega, rfl, int_eq (by have := HPE.out; omega), int_eq (by simp only [preW] <;> omega), HN⟩
          case measure => simp [intOf]
      · have p0 : 0 ≤ pre q 2 := by simp only [pre] <;> omega
        have p1 : pre q 2 ≤ 256 := by simp only [pre] <;> omega
        have p2 : 0 ≤ preW q 2 := by simp only [preW] <;> omega
        have p3 : preW q 2 ≤ 960 := by simp only [preW] <;> omega
        have p4 : pre q 2 ≤ b := hpk.out
        have HPE := Lib.hid (show pre q 3 = pre q 2 + q.c2 by simp only [pre] <;> omega)
        by_cases hlt : b < pre q 3
        · have hl2 : b - pre q 2 < q.c2 := by have := HPE.out; omega
          have HD := Lib.hid (loc_done HV.out (k := 2) (by omega) p4 hlt)
          clear hlt
          go_wp2
          go_quiet (fail)
          go_wp2
          refine bodyPost_ret (results_tmp2 rfl _ _ _) rfl ?_
          exact ⟨tup_eq (by rw [← HC.out, HD.out.1] <;> rfl) (by rw [← HF.out, HD.out.2, p2_2] <;> omega), below_drewN HB2.out _⟩
        · have hl2 : q.c2 ≤ b - pre q 2 := by have := HPE.out; omega
          have HN := Lib.hid (show pre q 3 ≤ b by omega)
          clear hlt
          go_wp2
          go_round
          case rel => exact ⟨3, by omega, rfl, int_eq (by have := HPE.out; omega), int_eq (by simp only [preW] <;> omega), HN⟩
          case measure => simp [intOf]
      · have p0 : 0 ≤ pre q 3 := by simp only [pre] <;> omega
        have p1 : pre q 3 ≤ 256 := by simp only [pre] <;> omega
        have p2 : 0 ≤ preW q 3 := by simp only [preW] <;> omega
        have p3 : preW q 3 ≤ 960 := by simp only [preW] <;> omega
        have p4 : pre q 3 ≤ b := hpk.out
        have HPE := Lib.hid (show pre q 4 = pre q 3 + q.c3 by simp only [pre] <;> omega)
        by_cases hlt : b < pre q 4
        · have hl2 : b - pre q 3 < q.c3 := by have := HPE.out; omega
          have HD := Lib.hid (loc_done HV.out (k := 3) (by omega) p4 hlt)
          clear hlt
          go_wp2
          go_quiet (fail)
          go_wp2
          refine bodyPost_ret (results_tmp2 rfl _ _ _) rfl ?_
          exact ⟨tup_eq (by rw [← HC.out, HD.out.1] <;> rfl) (by rw [← HF.out, HD.out.2, p2_3] <;> omega), below_drewN HB2.out _⟩
        · exact absurd HB4.out (by simpa using hlt)
  · rw [if_neg hin] at hc hf
    subst hc hf
    have HT := Lib.hid (in_no hin)
    have htrue := HT.out
    clear hin
    generalize blkV q = n at *
    go_enter Try.func125, Try.ntmps125
    go_wp2_with (first | (go_at_call 95; (with_reducible refine (hbl _).mono ?_); rintro e w2 ⟨rfl, hb2⟩; have HB2 := Lib.hid (HB.out.trans (hb2.mono (by rw [size_new]; omega))); have HM2 := Lib.hid (HM.out.below hb2 HM.out.lt); clear hb2; obtain ⟨d0, d1, d2, d3, d4, d5, d6, d7, d8, d9, d10, d11, d12⟩ := box_cells HM2.out) | (go_at_call 111; (with_reducible refine (a_within _ _ _ _).mono ?_); rintro e w1 ⟨rfl, rfl⟩))
    refine bodyPost_ret (results_tmp2 rfl _ _ _) rfl ?_
    exact ⟨rfl, HB2.out⟩
end Go.Proofs.Ytcbhpoajpingcaa.LayE
