/-
  Contracts of layer 14's statements' own functions: word; the sanity check awake.
-/
import Derived.Test.YtcbhpoajpingcaaRdC
namespace Go.Proofs.Ytcbhpoajpingcaa.RdL
open Go.ChangeShapes Go.WideShapes Go.ChangeAt Go.RowKit
open PlainT BlkW LayS LayA LayK LayP CelS CelM CelP CelV CelN CelO CelI CelY CelF CelB LabD LabR LabP LabS LabX RdA RdB RdC WordC
set_option linter.unusedVariables false
set_option maxHeartbeats 4000000
set_option maxRecDepth 100000

theorem l_word (v : Int) (w : World) : Calls Try.prog 52 #[.int .i64 v] w fun e w' => ∃ x, 0 ≤ x ∧ x ≤ 1000 ∧ e = .returned (.int .u64 x) ∧ w = w' := by
  go_enter Try.func52, Try.ntmps52
  go_upto_region 2 with (go_at_call 14; refine (k_place_ex _ _ (by omega) (by omega) _).mono ?_; rintro e w1 ⟨n, n0, n1, rfl, rfl⟩)
  have d5 : n.tdiv 5 = n / 5 := Int.tdiv_eq_ediv_of_nonneg n0
  have m3 : n.tmod 3 = n % 3 := Int.tmod_eq_emod_of_nonneg n0
  have m5 : n.tmod 5 = n % 5 := Int.tmod_eq_emod_of_nonneg n0
  by_cases h4 : n % 5 = 4
  · have h4' : (n % 5 == 4) = true := by simpa using h4
    clear h4
    go_wp2_with (go_at_call 60; refine (r_held _ _ (by omega) (by omega) (by omega) (by omega) _).mono ?_; rintro e w2 ⟨rfl, rfl⟩)
    go_ret
    exact ⟨_, by omega, by omega, rfl, rfl⟩
  · have h4' : (n % 5 == 4) = false := by simpa using h4
    clear h4
    go_wp2_with (go_at_call 62; refine (r_free _ (by omega) (by omega) _).mono ?_; rintro e w2 ⟨rfl, rfl⟩)
    go_ret
    exact ⟨_, by omega, by omega, rfl, rfl⟩
theorem gen_2 {q : Cfg} {A : Int → List Int} {lo hi b rb : Nat} {w0 w : World} (h : Begun w0 q A lo hi b rb w) : (A 1).getD 2 0 = 21 := by
  obtain ⟨hm, ⟨n, no, hn, hno, rfl⟩, _⟩ := h
  have hw : 4 ≤ q.w ∧ q.w ≤ 12 := by unfold Made at hm; omega
  show (gen q.w.toNat ++ List.replicate n 0).getD 2 0 = 21
  rw [List.getD_eq_getElem?_getD, List.getElem?_append_left (by rw [gen_len]; omega)]
  unfold gen
  rw [List.getElem?_map, List.getElem?_range (by omega)]
  rfl
/-- The machine a of awake behind i steps. -/
def Aw (i : Nat) (t bf vl : Int) : Prop := t = i ∧ (1 ≤ i → bf = 192) ∧ (2 ≤ i → vl = 21)
theorem aw_next {i : Nat} {t bf vl : Int} (hi : i < 3) (h : Aw i t bf vl) : Aw (i + 1) (nAt 3 192 t bf) (nBf 192 t bf) (nVl 21 t vl) := by
  obtain ⟨rfl, h1, h2⟩ := h
  have : i = 0 ∨ i = 1 ∨ i = 2 := by omega
  rcases this with rfl | rfl | rfl
  · exact ⟨rfl, fun _ => rfl, fun h => absurd h (by decide)⟩
  · exact ⟨rfl, fun _ => h1 (by decide), fun _ => rfl⟩
  · have hb := h1 (by decide)
    subst hb
    exact ⟨by decide, fun _ => rfl, fun _ => h2 (by decide)⟩
theorem l_awake (w : World) : Calls Try.prog 59 #[] w fun e w' => e = .returned (.bool true) ∧ Below w.heap.size w w' := by
  go_enter Try.func59, Try.ntmps59
  go_upto_region 2 with (go_at_call 20; refine (l_small _ _ _ _ _ _).mono ?_; rintro e w1 ⟨q, A, lo, hi, b, rb, rfl, hst⟩)
  have L0 := Lib.hid (Lb.begun hst)
  obtain ⟨hmd, l1, l1', l2, z2⟩ := begun_len hst
  have hD2 := gen_2 hst
  have hq : 4 ≤ q.w ∧ 1 ≤ q.o := by unfold Made at hmd; omega
  have hA2 : 0 < (A 2).length := by omega
  have hA1 : 2 < (A 1).length := by omega
  clear hst hmd l1 l1' l2 z2 hq
  have L1 := Lib.hid (L0.out.new TP #[.pointer (some ⟨b, 0, none⟩), .pointer (some ⟨rb, 0, none⟩)])
  simp only [List.nil_append] at L1
  have Z_gp : Hid ((w1.alloc (.cells #[.pointer (some ⟨b, 0, none⟩), .pointer (some ⟨rb, 0, none⟩)] TP)).heap.size = w1.heap.size + 1) := Lib.hid (size_new _ _)
  obtain ⟨gp, hn⟩ : ∃ gp, w1.heap.size = gp := ⟨_, rfl⟩
  rw [hn] at L1 Z_gp
  first | rw [hn] | skip
  clear hn
  obtain ⟨W1, hW⟩ : ∃ W', w1.alloc (.cells #[.pointer (some ⟨b, 0, none⟩), .pointer (some ⟨rb, 0, none⟩)] TP) = W' := ⟨_, rfl⟩
  rw [hW] at L1 Z_gp
  first | rw [hW] | skip
  clear hW
  clear L0
  clear Z_gp
  go_upto_region 3 with (go_at_call 50; refine (rd_new _ _ _ _).mono ?_; rintro e w2 ⟨rfl, rfl⟩)
  have L2 := Lib.hid (L1.out.new TRd #[.int .i64 0, .int .i64 2, .int .i64 0, .int .i64 3, .int .u64 0, .int .u64 0, .bool false])
  simp only [List.cons_append, List.nil_append] at L2
  have Z_ga : Hid ((W1.alloc (.cells #[.int .i64 0, .int .i64 2, .int .i64 0, .int .i64 3, .int .u64 0, .int .u64 0, .bool false] TRd)).heap.size = W1.heap.size + 1) := Lib.hid (size_new _ _)
  obtain ⟨ga, hn⟩ : ∃ ga, W1.heap.size = ga := ⟨_, rfl⟩
  rw [hn] at L2 Z_ga
  first | rw [hn] | skip
  clear hn
  obtain ⟨W2, hW⟩ : ∃ W', W1.alloc (.cells #[.int .i64 0, .int .i64 2, .int .i64 0, .int .i64 3, .int .u64 0, .int .u64 0, .bool false] TRd) = W' := ⟨_, rfl⟩
  rw [hW] at L2 Z_ga
  first | rw [hW] | skip
  clear hW
  clear L1
  have L2 : Hid (Lb w lo hi b rb q A A [(gp, TP, #[.pointer (some ⟨b, 0, none⟩), .pointer (some ⟨rb, 0, none⟩)]), (ga, TRd, pB 2 0 3 0 0 0)] W2) := L2
  have L3 := Lib.hid (L2.out.new TRd #[.int .i64 0, .int .i64 2, .int .i64 0, .int .i64 2, .int .u64 0, .int .u64 0, .bool false])
  simp only [List.cons_append, List.nil_append] at L3
  have Z_gb : Hid ((W2.alloc (.cells #[.int .i64 0, .int .i64 2, .int .i64 0, .int .i64 2, .int .u64 0, .int .u64 0, .bool false] TRd)).heap.size = W2.heap.size + 1) := Lib.hid (size_new _ _)
  first | rw [← Z_ga.out] | skip
  obtain ⟨gb, hn⟩ : ∃ gb, W2.heap.size = gb := ⟨_, rfl⟩
  rw [hn] at L3 Z_gb
  first | rw [hn] | skip
  clear hn
  obtain ⟨W3, hW⟩ : ∃ W', W2.alloc (.cells #[.int .i64 0, .int .i64 2, .int .i64 0, .int .i64 2, .int .u64 0, .int .u64 0, .bool false] TRd) = W' := ⟨_, rfl⟩
  rw [hW] at L3 Z_gb
  first | rw [hW] | skip
  clear hW
  clear L2 Z_ga
  have L3 : Hid (Lb w lo hi b rb q A A [(gp, TP, #[.pointer (some ⟨b, 0, none⟩), .pointer (some ⟨rb, 0, none⟩)]), (ga, TRd, pB 2 0 3 0 0 0), (gb, TRd, pB 2 0 2 0 0 0)] W3) := L3
  clear Z_gb
  have c3_gp_0 : W3.cell? ⟨gp, 0, none⟩ = some (.pointer (some ⟨b, 0, none⟩)) := L3.out.c 0 0 rfl rfl
  have c3_gp_1 : W3.cell? ⟨gp, 1, none⟩ = some (.pointer (some ⟨rb, 0, none⟩)) := L3.out.c 0 1 rfl rfl
  have hse := lb_set L3.out 2 (by decide) 0 hA2 192
  go_upto_region 5 with (go_at_call 21; refine hse.mono ?_; rintro e w5 ⟨rfl, hL⟩; have L4 := Lib.hid hL; clear hL)
  clear hse
  clear L3 c3_gp_0 c3_gp_1
  have hx : (upd A 2 0 192 2).getD 0 0 = 192 := upd_at hA2
  have ho : 0 < (upd A 2 0 192 2).length := by rw [upd_len]; exact hA2
  have ha : 2 < (upd A 2 0 192 1).length := by rw [upd_len]; exact hA1
  have hy : (upd A 2 0 192 1).getD 2 0 = 21 := by rw [upd_off (by decide)]; exact hD2
  clear hA1 hA2 hD2
  obtain ⟨A1, hA1⟩ : ∃ A1, upd A 2 0 192 = A1 := ⟨_, rfl⟩
  rw [hA1] at hx ho ha hy L4
  clear hA1
  go_wp2_with fail
  go_loopw [5] (fun iv wr => ∃ (i : Nat) (t bf vl : Int), i ≤ 3 ∧ iv = .int .i64 i ∧ Hid (Aw i t bf vl) ∧ Hid (Lb w lo hi b rb q A1 A1 [(gp, TP, #[.pointer (some ⟨b, 0, none⟩), .pointer (some ⟨rb, 0, none⟩)]), (ga, TRd, pB 2 0 3 t bf vl), (gb, TRd, pB 2 0 2 0 0 0)] wr)) (fun iv _ => 3 - (intOf iv).toNat)
  case atStart => exact ⟨0, 0, 0, 0, by omega, rfl, Lib.hid ⟨rfl, fun h => absurd h (by decide), fun h => absurd h (by decide)⟩, L4⟩
  case round =>
    clear L4
    obtain ⟨i, t, bf, vl, hi3, rfl, HA, L0⟩ := hrel
    by_cases hlt : i < 3
    · have hltI : (i : Int) < 3 := by omega
      have c0_gp_0 : wr.cell? ⟨gp, 0, none⟩ = some (.pointer (some ⟨b, 0, none⟩)) := L0.out.c 0 0 rfl rfl
      have c0_gp_1 : wr.cell? ⟨gp, 1, none⟩ = some (.pointer (some ⟨rb, 0, none⟩)) := L0.out.c 0 1 rfl rfl
      obtain ⟨k1, k2, k3, k4, k5, d, hv⟩ := nAc_ex 2 0 192 21 t
      have hst := x_step L0.out 1 rfl (by have := HA.out.1; omega) ho ha hx (by decide) (by decide) hy (Lib.hid hv)
      clear hv
      go_wp2_with (go_at_call 53; refine hst.mono ?_; rintro e w6 ⟨rfl, hL⟩; have L1 := Lib.hid hL; clear hL)
      go_roundw
      case rel => exact ⟨i + 1, _, _, _, by omega, by go_num, Lib.hid (aw_next hlt HA.out), L1⟩
      case measure => simp [intOf]; omega
    · obtain rfl : i = 3 := by omega
      obtain ⟨rfl, hb, hvl⟩ := HA.out
      have hb := hb (by decide)
      have hvl := hvl (by decide)
      subst hb hvl
      clear HA hlt hi3
      have L0 : Hid (Lb w lo hi b rb q A1 A1 [(gp, TP, #[.pointer (some ⟨b, 0, none⟩), .pointer (some ⟨rb, 0, none⟩)]), (ga, TRd, pB 2 0 3 3 192 21), (gb, TRd, pB 2 0 2 0 0 0)] wr) := L0
      have c0_gp_0 : wr.cell? ⟨gp, 0, none⟩ = some (.pointer (some ⟨b, 0, none⟩)) := L0.out.c 0 0 rfl rfl
      have c0_gp_1 : wr.cell? ⟨gp, 1, none⟩ = some (.pointer (some ⟨rb, 0, none⟩)) := L0.out.c 0 1 rfl rfl
      have hst := x_step L0.out 2 rfl (by decide) ho ha hx (by decide) (by decide) hy (Lib.hid (show nAc 2 0 192 21 0 = (1, 2, 0, 192, 192, true) from rfl))
      go_upto_region 10 with (go_at_call 53; refine hst.mono ?_; rintro e w6 ⟨rfl, hL⟩; have L1 := Lib.hid hL; clear hL)
      clear hst
      clear L0 c0_gp_0 c0_gp_1
      have L1 : Hid (Lb w lo hi b rb q A1 A1 [(gp, TP, #[.pointer (some ⟨b, 0, none⟩), .pointer (some ⟨rb, 0, none⟩)]), (ga, TRd, pB 2 0 3 3 192 21), (gb, TRd, pB 2 0 2 4 192 0)] w6) := L1
      go_wp2_with (first
        | (go_at_call 55; (with_reducible refine (x_done L1.out 1 rfl (by decide) (D := true) (Lib.hid rfl)).mono ?_); rintro e w7 ⟨rfl, rfl⟩)
        | (go_at_call 55; (with_reducible refine (x_done (L1.out.drewN _) 2 rfl (by decide) (D := true) (Lib.hid rfl)).mono ?_); rintro e w7 ⟨rfl, rfl⟩)
        | (go_at_call 57; (with_reducible refine (x_conflict L1.out 1 rfl (C := false) (Lib.hid rfl)).mono ?_); rintro e w7 ⟨rfl, rfl⟩)
        | (go_at_call 57; (with_reducible refine (x_conflict (L1.out.drewN _) 2 rfl (C := true) (Lib.hid rfl)).mono ?_); rintro e w7 ⟨rfl, rfl⟩)
        | (go_at_call 58; (with_reducible refine (x_value L1.out 1 rfl (by decide) (v := 21) (Lib.hid rfl)).mono ?_); rintro e w7 ⟨rfl, n7, rfl⟩)
        | (go_at_call 58; (with_reducible refine (x_value (L1.out.drewN _) 2 rfl (by decide) (v := 0) (Lib.hid rfl)).mono ?_); rintro e w7 ⟨rfl, n8, rfl⟩))
      have HB := Lib.hid L1.out.old
      go_ret
      exact ⟨rfl, below_drewN HB.out _⟩
end Go.Proofs.Ytcbhpoajpingcaa.RdL
