/-
  Contracts of package layout and its reference: Blocks; of layout: locate, Class, First.
-/
import Derived.Test.YtcbhpoajpingcaaLayC
namespace Go.Proofs.Ytcbhpoajpingcaa.LayD
open Go.ChangeShapes Go.WideShapes Go.ChangeAt Go.RowKit
open PlainT BlkW LayS LayA LayB LayC
set_option linter.unusedVariables false
set_option maxHeartbeats 1000000

set_option maxRecDepth 100000 in
theorem a_blocks (q : Cfg) (w : World) : Calls Try.prog 95 #[cfgV q] w fun e w' => e = .returned (.int .i64 (blkV q)) ∧ Below w.heap.size w w' := by
  have HM := Lib.hid (Mem.new w TC (cells q))
  have HB := Lib.hid (below_new w (.cells (cells q) TC))
  obtain ⟨v, hv⟩ : ∃ v, blkV q = v := ⟨_, rfl⟩
  rw [hv]
  obtain ⟨c, hc⟩ : ∃ c, chkV q = c := ⟨_, rfl⟩
  unfold blkV at hv
  rw [hc] at hv
  have HC := Lib.hid hc
  have hck := a_check q
  rw [hc] at hck
  clear hc
  by_cases h0 : c = 0
  · subst h0
    rw [if_pos rfl] at hv
    have hval := chk_iff.1 HC.out
    have HV := Lib.hid hv
    have hf : fits q 4 := by unfold Valid at hval; simp only [fits]; omega
    obtain ⟨f0, f1, f2, f3, f4, f5, f6, f7⟩ := hf
    have j0 := idx0 q.c0 q.c1 q.c2 q.c3
    have j1 := idx1 q.c0 q.c1 q.c2 q.c3
    have j2 := idx2 q.c0 q.c1 q.c2 q.c3
    have j3 := idx3 q.c0 q.c1 q.c2 q.c3
    clear hv hval
    go_enter Try.func95, Try.ntmps95
    go_wp2_with (go_at_call 94; (with_reducible refine (hck _).mono ?_); rintro e w2 ⟨rfl, hb2⟩; have HB2 := Lib.hid (HB.out.trans (hb2.mono (by rw [size_new]; omega))); have HM2 := Lib.hid (HM.out.below hb2 HM.out.lt); clear hb2; obtain ⟨d0, d1, d2, d3, d4, d5, d6, d7, d8, d9, d10, d11, d12⟩ := box_cells HM2.out)
    go_loop [3, 11] (fun bl kv => ∃ k : Nat, k ≤ 4 ∧ kv = .int .i64 k ∧ bl = .int .i64 (pre q k)) (fun _ kv => 4 - (intOf kv).toNat)
    case atStart => exact ⟨0, by omega, rfl, rfl⟩
    case round =>
      obtain ⟨k, hk, rfl, rfl⟩ := hrel
      have hk' : k = 0 ∨ k = 1 ∨ k = 2 ∨ k = 3 ∨ k = 4 := by omega
      rcases hk' with rfl | rfl | rfl | rfl | rfl
      · have p0 : 0 ≤ pre q 0 := by simp only [pre] <;> omega
        have p1 : pre q 0 ≤ 256 := by simp only [pre] <;> omega
        go_wp2
        go_round
        case rel => exact ⟨1, by omega, rfl, int_eq (by simp only [pre] <;> omega)⟩
        case measure => simp [intOf]
      · have p0 : 0 ≤ pre q 1 := by simp only [pre] <;> omega
        have p1 : pre q 1 ≤ 256 := by simp only [pre] <;> omega
        go_wp2
        go_round
        case rel => exact ⟨2, by omega, rfl, int_eq (by simp only [pre] <;> omega)⟩
        case measure => simp [intOf]
      · have p0 : 0 ≤ pre q 2 := by simp only [pre] <;> omega
        have p1 : pre q 2 ≤ 256 := by simp only [pre] <;> omega
        go_wp2
        go_round
        case rel => exact ⟨3, by omega, rfl, int_eq (by simp only [pre] <;> omega)⟩
        case measure => simp [intOf]
      · have p0 : 0 ≤ pre q 3 := by simp only [pre] <;> omega
        have p1 : pre q 3 ≤ 256 := by simp only [pre] <;> omega
        go_wp2
        go_round
        case rel => exact ⟨4, by omega, rfl, int_eq (by simp only [pre] <;> omega)⟩
        case measure => simp [intOf]
      · go_wp2
        go_ret
        exact ⟨by rw [← HV.out]; rfl, HB2.out⟩
  · rw [if_neg h0] at hv
    subst hv
    have h0' : (c != 0) = true := by simpa using h0
    go_enter Try.func95, Try.ntmps95
    go_wp2_with (go_at_call 94; (with_reducible refine (hck _).mono ?_); rintro e w2 ⟨rfl, hb2⟩; have HB2 := Lib.hid (HB.out.trans (hb2.mono (by rw [size_new]; omega))))
    go_ret
    exact ⟨rfl, HB2.out⟩
set_option maxRecDepth 100000 in
theorem r_blocks (q : Cfg) (w : World) : Calls Try.prog 100 #[cfgV q] w fun e w' => e = .returned (.int .i64 (blkV q)) ∧ Below w.heap.size w w' := by
  have HM := Lib.hid (Mem.new w TC (cells q))
  have HB := Lib.hid (below_new w (.cells (cells q) TC))
  obtain ⟨v, hv⟩ : ∃ v, blkV q = v := ⟨_, rfl⟩
  rw [hv]
  obtain ⟨c, hc⟩ : ∃ c, chkV q = c := ⟨_, rfl⟩
  unfold blkV at hv
  rw [hc] at hv
  have HC := Lib.hid hc
  have hck := r_check q
  rw [hc] at hck
  clear hc
  by_cases h0 : c = 0
  · subst h0
    rw [if_pos rfl] at hv
    have hval := chk_iff.1 HC.out
    have HV := Lib.hid hv
    have hf : fits q 4 := by unfold Valid at hval; simp only [fits]; omega
    obtain ⟨f0, f1, f2, f3, f4, f5, f6, f7⟩ := hf
    clear hv hval
    go_enter Try.func100, Try.ntmps100
    go_wp2_with (go_at_call 115; (with_reducible refine (hck _).mono ?_); rintro e w2 ⟨rfl, hb2⟩; have HB2 := Lib.hid (HB.out.trans (hb2.mono (by rw [size_new]; omega))); have HM2 := Lib.hid (HM.out.below hb2 HM.out.lt); clear hb2; obtain ⟨d0, d1, d2, d3, d4, d5, d6, d7, d8, d9, d10, d11, d12⟩ := box_cells HM2.out)
    go_ret
    exact ⟨by rw [← HV.out]; rfl, HB2.out⟩
  · rw [if_neg h0] at hv
    subst hv
    have h0' : (c != 0) = true := by simpa using h0
    go_enter Try.func100, Try.ntmps100
    go_wp2_with (go_at_call 115; (with_reducible refine (hck _).mono ?_); rintro e w2 ⟨rfl, hb2⟩; have HB2 := Lib.hid (HB.out.trans (hb2.mono (by rw [size_new]; omega))); have HM2 := Lib.hid (HM.out.below hb2 HM.out.lt); clear hb2; obtain ⟨d0, d1, d2, d3, d4, d5, d6, d7, d8, d9, d10, d11, d12⟩ := box_cells HM2.out)
    go_ret
    exact ⟨rfl, HB2.out⟩
end Go.Proofs.Ytcbhpoajpingcaa.LayD
