/-
  Contracts of package layout and its reference: Blocks; of layout: locate, Class, First. Contracts of package layout: locate, Class, First. Contracts of package layout: Class, First; and of its reference: Class, First. Contracts of package layout and of its reference: Find, Orec. What a drawn region holds over a boxed configuration. Contract of package layout: Orec. Contract of the reference of layer 7: Orec. Contracts of the statements' own functions: Place, example, awake, agrees.
-/
import Derived.Test.YtpjbmbipkmpkhaaLayC
import Derived.Deep.RegionHeld3
import Derived.Deep.RegionLaw
namespace Go.Proofs.Ytpjbmbipkmpkhaa.LayD
open Go.ChangeShapes Go.WideShapes Go.ChangeAt Go.RowKit
open PlainT BlkW LayS LayA LayB LayC
set_option linter.unusedVariables false
set_option maxHeartbeats 1000000

set_option maxRecDepth 100000 in
theorem a_blocks (q : Cfg) (w : World) : Calls Try.prog 97 #[cfgV q] w fun e w' => e = .returned (.int .i64 (blkV q)) ∧ Below w.heap.size w w' := by
  have HM := Lib.hid (Mem.new w TC (cells q))
  have HB := Lib.hid (below_new w (.cells (cells q) TC))
  obtain ⟨v, hv⟩ : ∃ v, blkV q = v := ⟨_, rfl⟩
  rw [hv]
  obtain ⟨c, hc⟩ : ∃ c, chkV q = c := ⟨_, rfl⟩
  unfold blkV at hv
  rw [hc] at hv
  have HC := Lib.hid hc
  have hck := a_check q
  rw [hc] at hck
  clear hc
  by_cases h0 : c = 0
  · subst h0
    rw [if_pos rfl] at hv
    have hval := chk_iff.1 HC.out
    have HV := Lib.hid hv
    have hf : fits q 4 := by unfold Valid at hval; simp only [fits]; omega
    obtain ⟨f0, f1, f2, f3, f4, f5, f6, f7⟩ := hf
    have j0 := idx0 q.c0 q.c1 q.c2 q.c3
    have j1 := idx1 q.c0 q.c1 q.c2 q.c3
    have j2 := idx2 q.c0 q.c1 q.c2 q.c3
    have j3 := idx3 q.c0 q.c1 q.c2 q.c3
    clear hv hval
    go_enter Try.func97, Try.ntmps97
    go_wp2_with (go_at_call 100; (with_reducible refine (hck _).mono ?_); rintro e w2 ⟨rfl, hb2⟩; have HB2 := Lib.hid (HB.out.trans (hb2.mono (by rw [size_new]; omega))); have HM2 := Lib.hid (HM.out.below hb2 HM.out.lt); clear hb2; obtain ⟨d0, d1, d2, d3, d4, d5, d6, d7, d8, d9, d10, d11, d12⟩ := box_cells HM2.out)
    go_loop [3, 11] (fun bl kv => ∃ k : Nat, k ≤ 4 ∧ kv = .int .i64 k ∧ bl = .int .i64 (pre q k)) (fun _ kv => 4 - (intOf kv).toNat)
    case atStart => exact ⟨0, by omega, rfl, rfl⟩
    case round =>
      obtain ⟨k, hk, rfl, rfl⟩ := hrel
      have hk' : k = 0 ∨ k = 1 ∨ k = 2 ∨ k = 3 ∨ k = 4 := by omega
      rcases hk' with rfl | rfl | rfl | rfl | rfl
      · have p0 : 0 ≤ pre q 0 := by simp only [pre] <;> omega
        have p1 : pre q 0 ≤ 256 := by simp only [pre] <;> omega
        go_wp2
        go_round
        case rel => exact ⟨1, by omega, rfl, int_eq (by simp only [pre] <;> omega)⟩
        case measure => simp [intOf]
      · have p0 : 0 ≤ pre q 1 := by simp only [pre] <;> omega
        have p1 : pre q 1 ≤ 256 := by simp only [pre] <;> omega
        go_wp2
        go_round
        case rel => exact ⟨2, by omega, rfl, int_eq (by simp only [pre] <;> omega)⟩
        case measure => simp [intOf]
      · have p0 : 0 ≤ pre q 2 := by simp only [pre] <;> omega
        have p1 : pre q 2 ≤ 256 := by simp only [pre] <;> omega
        go_wp2
        go_round
        case rel => exact ⟨3, by omega, rfl, int_eq (by simp only [pre] <;> omega)⟩
        case measure => simp [intOf]
      · have p0 : 0 ≤ pre q 3 := by simp only [pre] <;> omega
        have p1 : pre q 3 ≤ 256 := by simp only [pre] <;> omega
        go_wp2
        go_round
        case rel => exact ⟨4, by omega, rfl, int_eq (by simp only [pre] <;> omega)⟩
        case measure => simp [intOf]
      · go_wp2
        go_ret
        exact ⟨by rw [← HV.out]; rfl, HB2.out⟩
  · rw [if_neg h0] at hv
    subst hv
    have h0' : (c != 0) = true := by simpa using h0
    go_enter Try.func97, Try.ntmps97
    go_wp2_with (go_at_call 100; (with_reducible refine (hck _).mono ?_); rintro e w2 ⟨rfl, hb2⟩; have HB2 := Lib.hid (HB.out.trans (hb2.mono (by rw [size_new]; omega))))
    go_ret
    exact ⟨rfl, HB2.out⟩
set_option maxRecDepth 100000 in
theorem r_blocks (q : Cfg) (w : World) : Calls Try.prog 89 #[cfgV q] w fun e w' => e = .returned (.int .i64 (blkV q)) ∧ Below w.heap.size w w' := by
  have HM := Lib.hid (Mem.new w TC (cells q))
  have HB := Lib.hid (below_new w (.cells (cells q) TC))
  obtain ⟨v, hv⟩ : ∃ v, blkV q = v := ⟨_, rfl⟩
  rw [hv]
  obtain ⟨c, hc⟩ : ∃ c, chkV q = c := ⟨_, rfl⟩
  unfold blkV at hv
  rw [hc] at hv
  have HC := Lib.hid hc
  have hck := r_check q
  rw [hc] at hck
  clear hc
  by_cases h0 : c = 0
  · subst h0
    rw [if_pos rfl] at hv
    have hval := chk_iff.1 HC.out
    have HV := Lib.hid hv
    have hf : fits q 4 := by unfold Valid at hval; simp only [fits]; omega
    obtain ⟨f0, f1, f2, f3, f4, f5, f6, f7⟩ := hf
    clear hv hval
    go_enter Try.func89, Try.ntmps89
    go_wp2_with (go_at_call 115; (with_reducible refine (hck _).mono ?_); rintro e w2 ⟨rfl, hb2⟩; have HB2 := Lib.hid (HB.out.trans (hb2.mono (by rw [size_new]; omega))); have HM2 := Lib.hid (HM.out.below hb2 HM.out.lt); clear hb2; obtain ⟨d0, d1, d2, d3, d4, d5, d6, d7, d8, d9, d10, d11, d12⟩ := box_cells HM2.out)
    go_ret
    exact ⟨by rw [← HV.out]; rfl, HB2.out⟩
  · rw [if_neg h0] at hv
    subst hv
    have h0' : (c != 0) = true := by simpa using h0
    go_enter Try.func89, Try.ntmps89
    go_wp2_with (go_at_call 115; (with_reducible refine (hck _).mono ?_); rintro e w2 ⟨rfl, hb2⟩; have HB2 := Lib.hid (HB.out.trans (hb2.mono (by rw [size_new]; omega))); have HM2 := Lib.hid (HM.out.below hb2 HM.out.lt); clear hb2; obtain ⟨d0, d1, d2, d3, d4, d5, d6, d7, d8, d9, d10, d11, d12⟩ := box_cells HM2.out)
    go_ret
    exact ⟨rfl, HB2.out⟩
end Go.Proofs.Ytpjbmbipkmpkhaa.LayD
namespace Go.Proofs.Ytpjbmbipkmpkhaa.LayE
open Go.ChangeShapes Go.WideShapes Go.ChangeAt Go.RowKit
open PlainT BlkW LayS LayA LayB LayC LayD
set_option linter.unusedVariables false
set_option maxHeartbeats 1000000

theorem tup_eq {a b c d : Int} (h : a = c) (h2 : b = d) : Ending.returned (.tuple #[.int .i64 a, .int .i64 b]) = .returned (.tuple #[.int .i64 c, .int .i64 d]) := by rw [h, h2]
theorem in_no {q : Cfg} {b : Int} (h : ¬ (0 ≤ b ∧ b < blkV q)) : inB b 0 (blkV q - 1) = false := by
  rw [inB_not]
  omega
theorem in_yes {q : Cfg} {b : Int} (h : 0 ≤ b ∧ b < blkV q) : inB b 0 (blkV q - 1) = true := by
  rw [inB_iff]
  omega
set_option maxRecDepth 100000 in
set_option maxHeartbeats 4000000 in
theorem a_locate (q : Cfg) (b : Int) (w : World) : Calls Try.prog 120 #[cfgV q, .int .i64 b] w fun e w' => e = .returned (.tuple #[.int .i64 (clsV q b), .int .i64 (fstV q b)]) ∧ Below w.heap.size w w' := by
  have HM := Lib.hid (Mem.new w TC (cells q))
  have HB := Lib.hid (below_new w (.cells (cells q) TC))
  obtain ⟨c, hc⟩ : ∃ c, clsV q b = c := ⟨_, rfl⟩
  obtain ⟨f, hf⟩ : ∃ f, fstV q b = f := ⟨_, rfl⟩
  rw [hc, hf]
  unfold clsV at hc
  unfold fstV at hf
  have hbl := a_blocks q
  obtain ⟨n0, n1⟩ := blk_in q
  by_cases hin : 0 ≤ b ∧ b < blkV q
  · rw [if_pos hin] at hc hf
    have hval := blk_valid hin.1 hin.2
    have HT := Lib.hid (in_yes hin)
    have htrue := HT.out
    have HV := Lib.hid hval.1
    have hb4 : b < pre q 4 := hval.2
    obtain ⟨i0, i1⟩ := hin
    have HC := Lib.hid hc
    have HF := Lib.hid hf
    have hfit : fits q 4 := by
      have := HV.out
      unfold Valid at this
      simp only [fits]
      omega
    have hbb : 0 ≤ q.b ∧ q.b ≤ 64 := by
      have := HV.out
      unfold Valid at this
      omega
    obtain ⟨b0, b1⟩ := hbb
    obtain ⟨f0, f1, f2, f3, f4, f5, f6, f7⟩ := hfit
    have HB4 := Lib.hid hb4
    clear hval hc hf hb4
    generalize blkV q = n at *
    have hb64 : b ≤ 64 := by omega
    go_enter Try.func120, Try.ntmps120
    go_wp2_with (first | (go_at_call 97; (with_reducible refine (hbl _).mono ?_); rintro e w2 ⟨rfl, hb2⟩; have HB2 := Lib.hid (HB.out.trans (hb2.mono (by rw [size_new]; omega))); have HM2 := Lib.hid (HM.out.below hb2 HM.out.lt); clear hb2; obtain ⟨d0, d1, d2, d3, d4, d5, d6, d7, d8, d9, d10, d11, d12⟩ := box_cells HM2.out) | (go_at_call 121; (with_reducible refine (a_within _ _ _ _).mono ?_); rintro e w1 ⟨rfl, rfl⟩))
    go_loop [1, 4, 5] (fun bv cv fv => ∃ k : Nat, k ≤ 3 ∧ cv = .int .i64 k ∧ bv = .int .i64 (b - pre q k) ∧ fv = .int .i64 (q.b + preW q k) ∧ Hid (pre q k ≤ b)) (fun _ cv _ => 4 - (intOf cv).toNat)
    case atStart => exact ⟨0, by omega, rfl, int_eq (by simp only [pre]; omega), int_eq (by simp only [preW]; omega), Lib.hid i0⟩
    case round =>
      obtain ⟨k, hk, rfl, rfl, rfl, hpk⟩ := hrel
      have hk' : k = 0 ∨ k = 1 ∨ k = 2 ∨ k = 3 := by omega
      rcases hk' with rfl | rfl | rfl | rfl
      · have p0 : 0 ≤ pre q 0 := by simp only [pre] <;> omega
        have p1 : pre q 0 ≤ 256 := by simp only [pre] <;> omega
        have p2 : 0 ≤ preW q 0 := by simp only [preW] <;> omega
        have p3 : preW q 0 ≤ 960 := by simp only [preW] <;> omega
        have p4 : pre q 0 ≤ b := hpk.out
        have HPE := Lib.hid (show pre q 1 = pre q 0 + q.c0 by simp only [pre] <;> omega)
        by_cases hlt : b < pre q 1
        · have hl2 : b - pre q 0 < q.c0 := by have := HPE.out; omega
          have HD := Lib.hid (loc_done HV.out (k := 0) (by omega) p4 hlt)
          clear hlt
          go_wp2
          go_quiet (fail)
          go_wp2
          refine bodyPost_ret (results_tmp2 rfl _ _ _) rfl ?_
          exact ⟨tup_eq (by rw [← HC.out, HD.out.1] <;> rfl) (by rw [← HF.out, HD.out.2, p2_0] <;> omega), below_drewN HB2.out _⟩
        · have hl2 : q.c0 ≤ b - pre q 0 := by have := HPE.out; omega
          have HN := Lib.hid (show pre q 1 ≤ b by omega)
          clear hlt
          go_wp2
          go_round
          case rel => exact ⟨1, by omega, rfl, int_eq (by have := HPE.out; omega), int_eq (by simp only [preW] <;> omega), HN⟩
          case measure => simp [intOf]
      · have p0 : 0 ≤ pre q 1 := by simp only [pre] <;> omega
        have p1 : pre q 1 ≤ 256 := by simp only [pre] <;> omega
        have p2 : 0 ≤ preW q 1 := by simp only [preW] <;> omega
        have p3 : preW q 1 ≤ 960 := by simp only [preW] <;> omega
        have p4 : pre q 1 ≤ b := hpk.out
        have HPE := Lib.hid (show pre q 2 = pre q 1 + q.c1 by simp only [pre] <;> omega)
        by_cases hlt : b < pre q 2
        · have hl2 : b - pre q 1 < q.c1 := by have := HPE.out; omega
          have HD := Lib.hid (loc_done HV.out (k := 1) (by omega) p4 hlt)
          clear hlt
          go_wp2
          go_quiet (fail)
          go_wp2
          refine bodyPost_ret (results_tmp2 rfl _ _ _) rfl ?_
          exact ⟨tup_eq (by rw [← HC.out, HD.out.1] <;> rfl) (by rw [← HF.out, HD.out.2, p2_1] <;> omega), below_drewN HB2.out _⟩
        · have hl2 : q.c1 ≤ b - pre q 1 := by have := HPE.out; omega
          have HN := Lib.hid (show pre q 2 ≤ b by omega)
          clear hlt
          go_wp2
          go_round
          case rel => exact ⟨2, by omega, rfl, int_eq (by have := HPE.out; omega), int_eq (by simp only [preW] <;> omega), HN⟩
          case measure => simp [intOf]
      · have p0 : 0 ≤ pre q 2 := by simp only [pre] <;> omega
        have p1 : pre q 2 ≤ 256 := by simp only [pre] <;> omega
        have p2 : 0 ≤ preW q 2 := by simp only [preW] <;> omega
        have p3 : preW q 2 ≤ 960 := by simp only [preW] <;> omega
        have p4 : pre q 2 ≤ b := hpk.out
        have HPE := Lib.hid (show pre q 3 = pre q 2 + q.c2 by simp only [pre] <;> omega)
        by_cases hlt : b < pre q 3
        · have hl2 : b - pre q 2 < q.c2 := by have := HPE.out; omega
          have HD := Lib.hid (loc_done HV.out (k := 2) (by omega) p4 hlt)
          clear hlt
          go_wp2
          go_quiet (fail)
          go_wp2
          refine bodyPost_ret (results_tmp2 rfl _ _ _) rfl ?_
          exact ⟨tup_eq (by rw [← HC.out, HD.out.1] <;> rfl) (by rw [← HF.out, HD.out.2, p2_2] <;> omega), below_drewN HB2.out _⟩
        · have hl2 : q.c2 ≤ b - pre q 2 := by have := HPE.out; omega
          have HN := Lib.hid (show pre q 3 ≤ b by omega)
          clear hlt
          go_wp2
          go_round
          case rel => exact ⟨3, by omega, rfl, int_eq (by have := HPE.out; omega), int_eq (by simp only [preW] <;> omega), HN⟩
          case measure => simp [intOf]
      · have p0 : 0 ≤ pre q 3 := by simp only [pre] <;> omega
        have p1 : pre q 3 ≤ 256 := by simp only [pre] <;> omega
        have p2 : 0 ≤ preW q 3 := by simp only [preW] <;> omega
        have p3 : preW q 3 ≤ 960 := by simp only [preW] <;> omega
        have p4 : pre q 3 ≤ b := hpk.out
        have HPE := Lib.hid (show pre q 4 = pre q 3 + q.c3 by simp only [pre] <;> omega)
        by_cases hlt : b < pre q 4
        · have hl2 : b - pre q 3 < q.c3 := by have := HPE.out; omega
          have HD := Lib.hid (loc_done HV.out (k := 3) (by omega) p4 hlt)
          clear hlt
          go_wp2
          go_quiet (fail)
          go_wp2
          refine bodyPost_ret (results_tmp2 rfl _ _ _) rfl ?_
          exact ⟨tup_eq (by rw [← HC.out, HD.out.1] <;> rfl) (by rw [← HF.out, HD.out.2, p2_3] <;> omega), below_drewN HB2.out _⟩
        · exact absurd HB4.out (by simpa using hlt)
  · rw [if_neg hin] at hc hf
    subst hc hf
    have HT := Lib.hid (in_no hin)
    have htrue := HT.out
    clear hin
    generalize blkV q = n at *
    go_enter Try.func120, Try.ntmps120
    go_wp2_with (first | (go_at_call 97; (with_reducible refine (hbl _).mono ?_); rintro e w2 ⟨rfl, hb2⟩; have HB2 := Lib.hid (HB.out.trans (hb2.mono (by rw [size_new]; omega))); have HM2 := Lib.hid (HM.out.below hb2 HM.out.lt); clear hb2; obtain ⟨d0, d1, d2, d3, d4, d5, d6, d7, d8, d9, d10, d11, d12⟩ := box_cells HM2.out) | (go_at_call 121; (with_reducible refine (a_within _ _ _ _).mono ?_); rintro e w1 ⟨rfl, rfl⟩))
    refine bodyPost_ret (results_tmp2 rfl _ _ _) rfl ?_
    exact ⟨rfl, HB2.out⟩
end Go.Proofs.Ytpjbmbipkmpkhaa.LayE
namespace Go.Proofs.Ytpjbmbipkmpkhaa.LayF
open Go.ChangeShapes Go.WideShapes Go.ChangeAt Go.RowKit
open PlainT BlkW LayS LayA LayB LayC LayD LayE
set_option linter.unusedVariables false
set_option maxHeartbeats 1000000

theorem a_class (q : Cfg) (b : Int) (w : World) : Calls Try.prog 98 #[cfgV q, .int .i64 b] w fun e w' => e = .returned (.int .i64 (clsV q b)) ∧ Below w.heap.size w w' := by
  have HM := Lib.hid (Mem.new w TC (cells q))
  have HB := Lib.hid (below_new w (.cells (cells q) TC))
  go_enter Try.func98, Try.ntmps98
  go_wp2_with (go_at_call 120; (with_reducible refine (a_locate q b _).mono ?_); rintro e w2 ⟨rfl, hb2⟩; have HB2 := Lib.hid (HB.out.trans (hb2.mono (by rw [size_new]; omega))); have HM2 := Lib.hid (HM.out.below hb2 HM.out.lt); clear hb2; obtain ⟨d0, d1, d2, d3, d4, d5, d6, d7, d8, d9, d10, d11, d12⟩ := box_cells HM2.out)
  go_ret
  exact ⟨rfl, HB2.out⟩
set_option maxRecDepth 100000 in
set_option maxHeartbeats 4000000 in
theorem r_class (q : Cfg) (b : Int) (w : World) : Calls Try.prog 33 #[cfgV q, .int .i64 b] w fun e w' => e = .returned (.int .i64 (clsV q b)) ∧ Below w.heap.size w w' := by
  have HM := Lib.hid (Mem.new w TC (cells q))
  have HB := Lib.hid (below_new w (.cells (cells q) TC))
  obtain ⟨c, hc⟩ : ∃ c, clsV q b = c := ⟨_, rfl⟩
  rw [hc]
  unfold clsV at hc
  have hbl := r_blocks q
  obtain ⟨n0, n1⟩ := blk_in q
  by_cases hin : 0 ≤ b ∧ b < blkV q
  · rw [if_pos hin] at hc
    have hval := blk_valid hin.1 hin.2
    have HV := Lib.hid hval.1
    have hb4 : b < pre q 4 := hval.2
    obtain ⟨i0, i1⟩ := hin
    have HC := Lib.hid hc
    have hfit : fits q 4 := by
      have := HV.out
      unfold Valid at this
      simp only [fits]
      omega
    obtain ⟨f0, f1, f2, f3, f4, f5, f6, f7⟩ := hfit
    have HB4 := Lib.hid hb4
    clear hval hc hb4
    generalize blkV q = n at *
    have hb64 : b ≤ 64 := by omega
    go_enter Try.func33, Try.ntmps33
    go_wp2_with (go_at_call 89; (with_reducible refine (hbl _).mono ?_); rintro e w2 ⟨rfl, hb2⟩; have HB2 := Lib.hid (HB.out.trans (hb2.mono (by rw [size_new]; omega))); have HM2 := Lib.hid (HM.out.below hb2 HM.out.lt); clear hb2; obtain ⟨d0, d1, d2, d3, d4, d5, d6, d7, d8, d9, d10, d11, d12⟩ := box_cells HM2.out)
    go_loop [1, 5] (fun bv cv => ∃ k : Nat, k ≤ 3 ∧ cv = .int .i64 k ∧ bv = .int .i64 (b - pre q k) ∧ Hid (pre q k ≤ b)) (fun _ cv => 4 - (intOf cv).toNat)
    case atStart => exact ⟨0, by omega, rfl, int_eq (by simp only [pre]; omega), Lib.hid i0⟩
    case round =>
      obtain ⟨k, hk, rfl, rfl, hpk⟩ := hrel
      have hk' : k = 0 ∨ k = 1 ∨ k = 2 ∨ k = 3 := by omega
      rcases hk' with rfl | rfl | rfl | rfl
      · have p0 : 0 ≤ pre q 0 := by simp only [pre] <;> omega
        have p1 : pre q 0 ≤ 256 := by simp only [pre] <;> omega
        have p4 : pre q 0 ≤ b := hpk.out
        have HPE := Lib.hid (show pre q 1 = pre q 0 + q.c0 by simp only [pre] <;> omega)
        by_cases hlt : b < pre q 1
        · have hl2 : b - pre q 0 < q.c0 := by have := HPE.out; omega
          have HD := Lib.hid (loc_done HV.out (k := 0) (by omega) p4 hlt)
          clear hlt
          go_wp2
          go_ret
          exact ⟨by rw [← HC.out, HD.out.1] <;> rfl, HB2.out⟩
        · have hl2 : q.c0 ≤ b - pre q 0 := by have := HPE.out; omega
          have HN := Lib.hid (show pre q 1 ≤ b by omega)
          clear hlt
          go_wp2
          go_round
          case rel => exact ⟨1, by omega, rfl, int_eq (by have := HPE.out; omega), HN⟩
          case measure => simp [intOf]
      · have p0 : 0 ≤ pre q 1 := by simp only [pre] <;> omega
        have p1 : pre q 1 ≤ 256 := by simp only [pre] <;> omega
        have p4 : pre q 1 ≤ b := hpk.out
        have HPE := Lib.hid (show pre q 2 = pre q 1 + q.c1 by simp only [pre] <;> omega)
        by_cases hlt : b < pre q 2
        · have hl2 : b - pre q 1 < q.c1 := by have := HPE.out; omega
          have HD := Lib.hid (loc_done HV.out (k := 1) (by omega) p4 hlt)
          clear hlt
          go_wp2
          go_ret
          exact ⟨by rw [← HC.out, HD.out.1] <;> rfl, HB2.out⟩
        · have hl2 : q.c1 ≤ b - pre q 1 := by have := HPE.out; omega
          have HN := Lib.hid (show pre q 2 ≤ b by omega)
          clear hlt
          go_wp2
          go_round
          case rel => exact ⟨2, by omega, rfl, int_eq (by have := HPE.out; omega), HN⟩
          case measure => simp [intOf]
      · have p0 : 0 ≤ pre q 2 := by simp only [pre] <;> omega
        have p1 : pre q 2 ≤ 256 := by simp only [pre] <;> omega
        have p4 : pre q 2 ≤ b := hpk.out
        have HPE := Lib.hid (show pre q 3 = pre q 2 + q.c2 by simp only [pre] <;> omega)
        by_cases hlt : b < pre q 3
        · have hl2 : b - pre q 2 < q.c2 := by have := HPE.out; omega
          have HD := Lib.hid (loc_done HV.out (k := 2) (by omega) p4 hlt)
          clear hlt
          go_wp2
          go_ret
          exact ⟨by rw [← HC.out, HD.out.1] <;> rfl, HB2.out⟩
        · have hl2 : q.c2 ≤ b - pre q 2 := by have := HPE.out; omega
          have HN := Lib.hid (show pre q 3 ≤ b by omega)
          clear hlt
          go_wp2
          go_round
          case rel => exact ⟨3, by omega, rfl, int_eq (by have := HPE.out; omega), HN⟩
          case measure => simp [intOf]
      · have p0 : 0 ≤ pre q 3 := by simp only [pre] <;> omega
        have p1 : pre q 3 ≤ 256 := by simp only [pre] <;> omega
        have p4 : pre q 3 ≤ b := hpk.out
        have HPE := Lib.hid (show pre q 4 = pre q 3 + q.c3 by simp only [pre] <;> omega)
        by_cases hlt : b < pre q 4
        · have hl2 : b - pre q 3 < q.c3 := by have := HPE.out; omega
          have HD := Lib.hid (loc_done HV.out (k := 3) (by omega) p4 hlt)
          clear hlt
          go_wp2
          go_ret
          exact ⟨by rw [← HC.out, HD.out.1] <;> rfl, HB2.out⟩
        · exact absurd HB4.out (by simpa using hlt)
  · rw [if_neg hin] at hc
    subst hc
    by_cases hb0 : b < 0
    · clear hin
      go_enter Try.func33, Try.ntmps33
      go_wp2
      go_ret
      exact ⟨rfl, HB.out⟩
    · have hb1 : blkV q ≤ b := by omega
      clear hin
      generalize blkV q = n at *
      go_enter Try.func33, Try.ntmps33
      go_wp2_with (go_at_call 89; (with_reducible refine (hbl _).mono ?_); rintro e w2 ⟨rfl, hb2⟩; have HB2 := Lib.hid (HB.out.trans (hb2.mono (by rw [size_new]; omega))); have HM2 := Lib.hid (HM.out.below hb2 HM.out.lt); clear hb2; obtain ⟨d0, d1, d2, d3, d4, d5, d6, d7, d8, d9, d10, d11, d12⟩ := box_cells HM2.out)
      go_ret
      exact ⟨rfl, HB2.out⟩
theorem cls_of {q : Cfg} {i : Int} (h0 : 0 ≤ i) (h1 : i < blkV q) : clsV q i = clsN q i := by
  unfold clsV
  rw [if_pos ⟨h0, h1⟩]
theorem fst_of {q : Cfg} {i : Int} (h0 : 0 ≤ i) (h1 : i < blkV q) : fstV q i = fstN q i := by
  unfold fstV
  rw [if_pos ⟨h0, h1⟩]
theorem blk_of {q : Cfg} (h : Valid q) : blkV q = q.c0 + q.c1 + q.c2 + q.c3 := by
  unfold blkV
  rw [if_pos (chk_iff.2 h)]
end Go.Proofs.Ytpjbmbipkmpkhaa.LayF
namespace Go.Proofs.Ytpjbmbipkmpkhaa.LayG
open Go.ChangeShapes Go.WideShapes Go.ChangeAt Go.RowKit
open PlainT BlkW LayS LayA LayB LayC LayD LayE LayF
set_option linter.unusedVariables false
set_option maxHeartbeats 1000000

theorem find_step {q : Cfg} {x : Int} {n k : Nat} {v : Int} (h : findGo q x (n - k) k = v) (hk : k < n) : (if fstV q k = x then (k : Int) else findGo q x (n - (k + 1)) ((k : Int) + 1)) = v := by
  rw [show n - k = (n - (k + 1)) + 1 by omega] at h
  unfold findGo at h
  exact h
theorem find_end {q : Cfg} {x : Int} {n k : Nat} {v : Int} (h : findGo q x (n - k) k = v) (hk : n ≤ k) : v = -1 := by
  rw [show n - k = 0 by omega] at h
  unfold findGo at h
  exact h.symm
theorem ret_int {a b : Int} (h : a = b) : Ending.returned (.int .i64 a) = .returned (.int .i64 b) := by rw [h]
end Go.Proofs.Ytpjbmbipkmpkhaa.LayG
namespace Go.Proofs.Ytpjbmbipkmpkhaa.LayH
open Go.ChangeShapes Go.WideShapes Go.ChangeAt Go.RowKit
open PlainT BlkW LayS LayA LayB LayC LayD LayE LayF LayG
set_option linter.unusedVariables false
set_option maxHeartbeats 1000000

theorem below_trans2 {w a b : World} (h : Below w.heap.size w a) (k : Below a.heap.size a b) : Below w.heap.size w b := h.trans (k.mono h.size)
def HQ (w0 : World) (g : Nat) (q : Cfg) (w : World) : Prop := Mem w g TC (cells q) ∧ Below w0.heap.size w0 w
abbrev HeldQ (w0 : World) (g : Nat) (q : Cfg) (w : World) : Prop :=
  w.cell? ⟨g, 0, none⟩ = some (.int .i64 q.w) ∧ w.cell? ⟨g, 1, none⟩ = some (.int .i64 q.o) ∧ w.cell? ⟨g, 2, none⟩ = some (.int .i64 q.b) ∧ w.cell? ⟨g, 3, none⟩ = some (.int .i64 q.c0) ∧ w.cell? ⟨g, 4, none⟩ = some (.int .i64 q.c1) ∧ w.cell? ⟨g, 5, none⟩ = some (.int .i64 q.c2) ∧ w.cell? ⟨g, 6, none⟩ = some (.int .i64 q.c3) ∧
    w.cell? ⟨g, 7, none⟩ = some (.int .i64 q.r) ∧ w.cell? ⟨g, 8, none⟩ = some (.int .i64 q.t) ∧ w.cell? ⟨g, 9, none⟩ = some (.int .i64 q.a) ∧ w.cell? ⟨g, 10, none⟩ = some (.int .i64 q.f) ∧ w.cell? ⟨g, 11, none⟩ = some (.int .i64 q.k) ∧ w.cell? ⟨g, 12, none⟩ = some (.bool q.s) ∧ HQ w0 g q w
theorem heldq_of {w0 : World} {g : Nat} {q : Cfg} {w : World} (h : HQ w0 g q w) : HeldQ w0 g q w := by
  obtain ⟨d0, d1, d2, d3, d4, d5, d6, d7, d8, d9, d10, d11, d12⟩ := box_cells h.1
  exact ⟨d0, d1, d2, d3, d4, d5, d6, d7, d8, d9, d10, d11, d12, h⟩
theorem heldq_drew {w0 : World} {g : Nat} {q : Cfg} {w : World} (h : HQ w0 g q w) : HeldQ w0 g q w.drew :=
  heldq_of ⟨h.1, below_drewN h.2 1⟩
theorem heldq_hq {w0 : World} {g : Nat} {q : Cfg} {w : World} (h : HeldQ w0 g q w) : HQ w0 g q w := h.2.2.2.2.2.2.2.2.2.2.2.2.2
theorem heldq_keep {w0 : World} {g : Nat} {q : Cfg} {w w' : World} (h : HeldQ w0 g q w) (hb : Below w.heap.size w w') : HeldQ w0 g q w' := by
  obtain ⟨h1, h2⟩ := heldq_hq h
  exact heldq_of ⟨h1.below hb h1.lt, below_trans2 h2 hb⟩
theorem hq_new (w : World) (q : Cfg) : HQ w w.heap.size q (w.alloc (.cells (cells q) TC)) := ⟨Mem.new _ _ _, below_new _ _⟩
theorem within_below (n lo hi : Int) (w : World) : Calls Try.prog 121 #[.int .i64 n, .int .i64 lo, .int .i64 hi] w fun e w' => e = .returned (.bool (inB n lo hi)) ∧ Below w.heap.size w w' :=
  (a_within n lo hi w).mono fun e w' ⟨h, hw⟩ => ⟨h, hw ▸ Below.refl _ _⟩
end Go.Proofs.Ytpjbmbipkmpkhaa.LayH
namespace Go.Proofs.Ytpjbmbipkmpkhaa.LayI
open Go.ChangeShapes Go.WideShapes Go.ChangeAt Go.RowKit
open PlainT BlkW LayS LayA LayB LayC LayD LayE LayF LayG LayH
set_option linter.unusedVariables false
set_option maxHeartbeats 1000000

end Go.Proofs.Ytpjbmbipkmpkhaa.LayI
namespace Go.Proofs.Ytpjbmbipkmpkhaa.LayJ
open Go.ChangeShapes Go.WideShapes Go.ChangeAt Go.RowKit
open PlainT BlkW LayS LayA LayB LayC LayD LayE LayF LayG LayH
set_option linter.unusedVariables false
set_option maxHeartbeats 1000000

end Go.Proofs.Ytpjbmbipkmpkhaa.LayJ
namespace Go.Proofs.Ytpjbmbipkmpkhaa.LayK
open Go.ChangeShapes Go.WideShapes Go.ChangeAt Go.RowKit
open PlainT BlkW LayS LayA LayB LayC LayD LayE LayF LayG LayH LayI LayJ
set_option linter.unusedVariables false
set_option maxHeartbeats 1000000

/-- What Place gives. -/
def pl (a m : Int) : Int := wrap64 ((IntKind.u64.wrap a).tmod m)
theorem pl_in (a m : Int) (h0 : 0 < m) (h1 : m ≤ 1000) : 0 ≤ pl a m ∧ pl a m ≤ m - 1 := by
  have hu : 0 ≤ IntKind.u64.wrap a := (bounds_u64 (wf_wrap .u64 a)).1
  unfold pl
  rw [Int.tmod_eq_emod_of_nonneg hu]
  have a0 := Int.emod_nonneg (IntKind.u64.wrap a) (by omega : m ≠ 0)
  have a1 := Int.emod_lt_of_pos (IntKind.u64.wrap a) h0
  rw [IntWalk.wrap64_in _ (by omega)]
  omega
theorem k_place (a m v : Int) (h0 : 0 < m) (h1 : m ≤ 1000) (hv : pl a m = v) (w : World) : Calls Try.prog 12 #[.int .i64 a, .int .i64 m] w fun e w' => e = .returned (.int .i64 v) ∧ w = w' := by
  have hw : IntKind.u64.wrap m = m := Int.emod_eq_of_lt (by omega) (by show m < 18446744073709551616; omega)
  have hv2 : wrap64 ((IntKind.u64.wrap a).tmod m) = v := hv
  clear hv
  go_enter Try.func12, Try.ntmps12
  go_wp2
  go_ret
  exact ⟨by rw [← hv2]; rfl, rfl⟩
/-- Place, whatever it gives. -/
theorem k_place_ex (a m : Int) (h0 : 0 < m) (h1 : m ≤ 1000) (w : World) : Calls Try.prog 12 #[.int .i64 a, .int .i64 m] w fun e w' => ∃ v, 0 ≤ v ∧ v ≤ m - 1 ∧ e = .returned (.int .i64 v) ∧ w = w' :=
  (k_place a m _ h0 h1 rfl w).mono fun e w' ⟨h, hw⟩ => ⟨_, (pl_in a m h0 h1).1, (pl_in a m h0 h1).2, h, hw⟩
/-- The configuration of the chapter; the zero value. -/
def ex : Cfg := ⟨16, 3, 4, 2, 1, 0, 0, 1, 1, 0, 0, 0, false⟩
def zeroC : Cfg := ⟨0, 0, 0, 0, 0, 0, 0, 0, 0, 0, 0, 0, false⟩
end Go.Proofs.Ytpjbmbipkmpkhaa.LayK
