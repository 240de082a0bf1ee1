/-
  The walk of CodeDecodes.
-/
import Derived.Test.YtafidppjabdecaaCodeDa
namespace Go.Proofs.Ytafidppjabdecaa.CodeDe
open Go.ChangeShapes Go.WideShapes Go.ChangeAt Go.RowKit
open LawFrame
set_option linter.unusedVariables false
set_option maxHeartbeats 1000000
open PlainT BlkW CodeS CodeW CodeA CodeP CodeO CodeI CodeH CodeD CodeT CodeU CodeV CodeQ CodeRD CodeRG CodeDa

set_option maxHeartbeats 8000000 in
set_option maxRecDepth 100000 in
theorem de_big (w : World) (A0 : Option Addr) (n0 c0 : Nat) (l0 : n0 ≤ c0) (m0 : c0 ≤ maxLen) (hbig : 400 < n0) :
    Calls Try.prog 5 #[.slice A0 n0 c0] w fun e w' => e = .returned (.bool true) ∧ Kept w w' := by
  unfold maxLen at m0
  go_enter Try.func5, Try.ntmps5
  go_wp2_with (go_at_call 9; refine (a_awake _).mono ?_; rintro e w2 ⟨rfl, hb2⟩)
  go_ret
  exact ⟨rfl, Kept.of_below hb2⟩
set_option maxHeartbeats 8000000 in
set_option maxRecDepth 100000 in
theorem de_small (w : World) (A0 : Option Addr) (n0 c0 : Nat) (z0 : List Int) (l0 : n0 ≤ c0) (m0 : c0 ≤ maxLen) (s0 : Ints .u8 w A0 n0 z0) (q0 : n0 ≤ 400) :
    Calls Try.prog 5 #[.slice A0 n0 c0] w fun e w' => e = .returned (.bool true) ∧ Kept w w' := by
  have HIN := Lib.hid (inb s0)
  have HS := Lib.hid s0
  have HM0 := Lib.hid m0
  obtain ⟨S0, hS0⟩ : ∃ S0, scrD z0 = S0 := ⟨_, rfl⟩
  obtain ⟨E0, hE0⟩ : ∃ E0, errD z0 = E0 := ⟨_, rfl⟩
  obtain ⟨z4, hz4⟩ : ∃ z4, z4 = [83, 84, 88, 49] ++ z0 := ⟨_, rfl⟩
  obtain ⟨S4, hS4⟩ : ∃ S4, scrD z4 = S4 := ⟨_, rfl⟩
  obtain ⟨E4, hE4⟩ : ∃ E4, errD z4 = E4 := ⟨_, rfl⟩
  have HS0 := Lib.hid hS0
  have HE0 := Lib.hid hE0
  have HZ4 := Lib.hid hz4
  have HS4 := Lib.hid hS4
  have HE4 := Lib.hid hE4
  clear s0 hS0 hE0 hz4 hS4 hE4
  unfold maxLen at m0
  go_enter Try.func5, Try.ntmps5
  go_wp2_with fail
  refine (a_decode _ _ _ z0 _ l0 HM0.out HS.out).mono ?_
  rintro e w0a hd
  obtain ⟨hb, v, rfl, hh⟩ := dec_any hd HIN.out
  rw [HE0.out]
  rw [HS0.out] at hh
  have hx := hh
  obtain ⟨x0, x1, x2, x3, x4, x5, x6, x7, x8, x9, x10, x11, xb, xA, xn, xc, xP, xp, xd, xK, xk, xe, rfl⟩ := Holds.agg hx
  obtain ⟨w0, hw⟩ : ∃ w0, w0 = w0a.alloc (.cells #[.int .i64 x0, .int .i64 x1, .int .i64 x2, .int .i64 x3, .int .i64 x4, .int .i64 x5, .int .i64 x6, .int .i64 x7, .int .i64 x8, .int .i64 x9, .int .i64 x10, .int .i64 x11, .bool xb, .slice xA xn xc, .slice xP xp xd, .slice xK xk xe] 29) := ⟨_, rfl⟩
  have hbn : Below w0a.heap.size w0a w0 := hw ▸ below_new w0a _
  have M0 := Lib.hid (show Mem w0 w0a.heap.size 29 #[.int .i64 x0, .int .i64 x1, .int .i64 x2, .int .i64 x3, .int .i64 x4, .int .i64 x5, .int .i64 x6, .int .i64 x7, .int .i64 x8, .int .i64 x9, .int .i64 x10, .int .i64 x11, .bool xb, .slice xA xn xc, .slice xP xp xd, .slice xK xk xe] from hw ▸ Mem.new w0a _ _)
  have X0 := Lib.hid (Holds.upto hh (Old.of_below hbn))
  have hbk := kept_trans hb hbn
  have HW0 := Lib.hid hw
  obtain ⟨g0, hg0⟩ : ∃ g0, g0 = w0a.heap.size := ⟨_, rfl⟩
  have HG0 := Lib.hid hg0
  rw [← hg0] at M0
  have HB0 := Lib.hid hbk
  have HI0 := Lib.hid (CodeQ.upto HS.out hbk)
  clear hd hb hh hx hw hbn hbk hg0 HS
  go_upto_region 4 with fail
  rw [← HW0.out, ← HG0.out]
  clear HW0
  as_aux_lemma =>
    go_wp2_with fail
    refine (r_decode _ _ _ z0 _ l0 HM0.out HI0.out).mono ?_
    rintro e w1a hd
    obtain ⟨hb, v, rfl, hh⟩ := dec_any hd HIN.out
    rw [HE0.out]
    rw [HS0.out] at hh
    have hx := hh
    obtain ⟨y0, y1, y2, y3, y4, y5, y6, y7, y8, y9, y10, y11, yb, yA, yn, yc, yP, yp, yd, yK, yk, ye, rfl⟩ := Holds.agg hx
    obtain ⟨w1, hw⟩ : ∃ w1, w1 = w1a.alloc (.cells #[.int .i64 y0, .int .i64 y1, .int .i64 y2, .int .i64 y3, .int .i64 y4, .int .i64 y5, .int .i64 y6, .int .i64 y7, .int .i64 y8, .int .i64 y9, .int .i64 y10, .int .i64 y11, .bool yb, .slice yA yn yc, .slice yP yp yd, .slice yK yk ye] 29) := ⟨_, rfl⟩
    have hbn : Below w1a.heap.size w1a w1 := hw ▸ below_new w1a _
    have M1 := Lib.hid (show Mem w1 w1a.heap.size 29 #[.int .i64 y0, .int .i64 y1, .int .i64 y2, .int .i64 y3, .int .i64 y4, .int .i64 y5, .int .i64 y6, .int .i64 y7, .int .i64 y8, .int .i64 y9, .int .i64 y10, .int .i64 y11, .bool yb, .slice yA yn yc, .slice yP yp yd, .slice yK yk ye] from hw ▸ Mem.new w1a _ _)
    have X1 := Lib.hid (Holds.upto hh (Old.of_below hbn))
    have hbk := kept_trans hb hbn
    have HW1 := Lib.hid hw
    obtain ⟨g1, hg1⟩ : ∃ g1, g1 = w1a.heap.size := ⟨_, rfl⟩
    have HG1 := Lib.hid hg1
    rw [← hg1] at M1
    have HB1 := Lib.hid (kept_trans HB0.out hbk)
    have HI1 := Lib.hid (CodeQ.upto HI0.out hbk)
    have M0' := Lib.hid (M0.out.below hbk M0.out.lt)
    have X0' := Lib.hid (Holds.upto X0.out (Old.of_below hbk))
    clear hd hb hh hx hw hbn hbk hg1 HI0 HB0 M0 X0
    go_upto_region 5 with fail
    rw [← HW1.out, ← HG1.out]
    clear HW1
    as_aux_lemma =>
      obtain ⟨A4, n4, c4, w2b, hrun, hi4, hn4, hc4, hb4⟩ := app4 w1 A0 n0 c0 z0 HI1.out (by omega)
      rw [← HZ4.out] at hi4
      have HR := Lib.hid hrun
      have kc := Lib.run_convert_bytes_const (P := Try.prog) w1 31 5 #[.int .u8 83, .int .u8 84, .int .u8 88, .int .u8 49] 4 4 Try.underlying31 Try.underlying5
      have HB2 := Lib.hid (kept_trans HB1.out hb4)
      have M0 := Lib.hid (M0'.out.below hb4 M0'.out.lt)
      have X0 := Lib.hid (Holds.upto X0'.out (Old.of_below hb4))
      have M1' := Lib.hid (M1.out.below hb4 M1.out.lt)
      have X1' := Lib.hid (Holds.upto X1.out (Old.of_below hb4))
      have HI4 := Lib.hid hi4
      have HN4 := Lib.hid hn4
      have HC4 := Lib.hid hc4
      have HIN4 := Lib.hid (inb hi4)
      clear hrun hi4 hn4 hc4 hb4 HI1 HB1 M0' X0' M1 X1
      go_wp2_with (at_builtin; refine wpList_append_run rfl _ _ _ rfl HR.out (by rfl) (by rfl) ?_)
      clear kc
      refine (a_decode _ _ _ z4 _ HN4.out HC4.out HI4.out).mono ?_
      rintro e w2a hd
      obtain ⟨hb, v, rfl, hh⟩ := dec_any hd HIN4.out
      rw [HE4.out]
      rw [HS4.out] at hh
      have hx := hh
      obtain ⟨u0, u1, u2, u3, u4, u5, u6, u7, u8, u9, u10, u11, ub, uA, un, uc, uP, up, ud, uK, uk, ue, rfl⟩ := Holds.agg hx
      obtain ⟨w2, hw⟩ : ∃ w2, w2 = w2a.alloc (.cells #[.int .i64 u0, .int .i64 u1, .int .i64 u2, .int .i64 u3, .int .i64 u4, .int .i64 u5, .int .i64 u6, .int .i64 u7, .int .i64 u8, .int .i64 u9, .int .i64 u10, .int .i64 u11, .bool ub, .slice uA un uc, .slice uP up ud, .slice uK uk ue] 29) := ⟨_, rfl⟩
      have hbn : Below w2a.heap.size w2a w2 := hw ▸ below_new w2a _
      have M2 := Lib.hid (show Mem w2 w2a.heap.size 29 #[.int .i64 u0, .int .i64 u1, .int .i64 u2, .int .i64 u3, .int .i64 u4, .int .i64 u5, .int .i64 u6, .int .i64 u7, .int .i64 u8, .int .i64 u9, .int .i64 u10, .int .i64 u11, .bool ub, .slice uA un uc, .slice uP up ud, .slice uK uk ue] from hw ▸ Mem.new w2a _ _)
      have X2 := Lib.hid (Holds.upto hh (Old.of_below hbn))
      have hbk := kept_trans hb hbn
      have HW2 := Lib.hid hw
      obtain ⟨g2, hg2⟩ : ∃ g2, g2 = w2a.heap.size := ⟨_, rfl⟩
      have HG2 := Lib.hid hg2
      rw [← hg2] at M2
      have HB3 := Lib.hid (kept_trans HB2.out hbk)
      have HI5 := Lib.hid (CodeQ.upto HI4.out hbk)
      have M0' := Lib.hid (M0.out.below hbk M0.out.lt)
      have X0' := Lib.hid (Holds.upto X0.out (Old.of_below hbk))
      have M1 := Lib.hid (M1'.out.below hbk M1'.out.lt)
      have X1 := Lib.hid (Holds.upto X1'.out (Old.of_below hbk))
      clear hd hb hh hx hw hbn hbk hg2 HI4 HB2 M0 X0 M1' X1'
      go_upto_region 7 with fail
      rw [← HW2.out, ← HG2.out]
      clear HW2
      as_aux_lemma =>
        go_wp2_with fail
        refine (r_decode _ _ _ z4 _ HN4.out HC4.out HI5.out).mono ?_
        rintro e w3a hd
        obtain ⟨hb, v, rfl, hh⟩ := dec_any hd HIN4.out
        rw [HE4.out]
        rw [HS4.out] at hh
        have hx := hh
        obtain ⟨v0, v1, v2, v3, v4, v5, v6, v7, v8, v9, v10, v11, vb, vA, vn, vc, vP, vp, vd, vK, vk, ve, rfl⟩ := Holds.agg hx
        obtain ⟨w3, hw⟩ : ∃ w3, w3 = w3a.alloc (.cells #[.int .i64 v0, .int .i64 v1, .int .i64 v2, .int .i64 v3, .int .i64 v4, .int .i64 v5, .int .i64 v6, .int .i64 v7, .int .i64 v8, .int .i64 v9, .int .i64 v10, .int .i64 v11, .bool vb, .slice vA vn vc, .slice vP vp vd, .slice vK vk ve] 29) := ⟨_, rfl⟩
        have hbn : Below w3a.heap.size w3a w3 := hw ▸ below_new w3a _
        have M3 := Lib.hid (show Mem w3 w3a.heap.size 29 #[.int .i64 v0, .int .i64 v1, .int .i64 v2, .int .i64 v3, .int .i64 v4, .int .i64 v5, .int .i64 v6, .int .i64 v7, .int .i64 v8, .int .i64 v9, .int .i64 v10, .int .i64 v11, .bool vb, .slice vA vn vc, .slice vP vp vd, .slice vK vk ve] from hw ▸ Mem.new w3a _ _)
        have X3 := Lib.hid (Holds.upto hh (Old.of_below hbn))
        have hbk := kept_trans hb hbn
        have HW3 := Lib.hid hw
        obtain ⟨g3, hg3⟩ : ∃ g3, g3 = w3a.heap.size := ⟨_, rfl⟩
        have HG3 := Lib.hid hg3
        rw [← hg3] at M3
        have HB4 := Lib.hid (kept_trans HB3.out hbk)
        have M0 := Lib.hid (M0'.out.below hbk M0'.out.lt)
        have X0 := Lib.hid (Holds.upto X0'.out (Old.of_below hbk))
        have M1' := Lib.hid (M1.out.below hbk M1.out.lt)
        have X1' := Lib.hid (Holds.upto X1.out (Old.of_below hbk))
        have M2' := Lib.hid (M2.out.below hbk M2.out.lt)
        have X2' := Lib.hid (Holds.upto X2.out (Old.of_below hbk))
        clear hd hb hh hx hw hbn hbk hg3 HI5 HB3 M0' X0' M1 X1 M2 X2
        go_upto_region 8 with fail
        rw [← HW3.out, ← HG3.out]
        clear HW3
        as_aux_lemma =>
          have f0_0 := M0.out.cell 0
          have f0_1 := M0.out.cell 1
          have f0_2 := M0.out.cell 2
          have f0_3 := M0.out.cell 3
          have f0_4 := M0.out.cell 4
          have f0_5 := M0.out.cell 5
          have f0_6 := M0.out.cell 6
          have f0_7 := M0.out.cell 7
          have f0_8 := M0.out.cell 8
          have f0_9 := M0.out.cell 9
          have f0_10 := M0.out.cell 10
          have f0_11 := M0.out.cell 11
          have f0_12 := M0.out.cell 12
          have f0_13 := M0.out.cell 13
          have f0_14 := M0.out.cell 14
          have f0_15 := M0.out.cell 15
          have f1_0 := M1'.out.cell 0
          have f1_1 := M1'.out.cell 1
          have f1_2 := M1'.out.cell 2
          have f1_3 := M1'.out.cell 3
          have f1_4 := M1'.out.cell 4
          have f1_5 := M1'.out.cell 5
          have f1_6 := M1'.out.cell 6
          have f1_7 := M1'.out.cell 7
          have f1_8 := M1'.out.cell 8
          have f1_9 := M1'.out.cell 9
          have f1_10 := M1'.out.cell 10
          have f1_11 := M1'.out.cell 11
          have f1_12 := M1'.out.cell 12
          have f1_13 := M1'.out.cell 13
          have f1_14 := M1'.out.cell 14
          have f1_15 := M1'.out.cell 15
          simp at f0_0 f0_1 f0_2 f0_3 f0_4 f0_5 f0_6 f0_7 f0_8 f0_9 f0_10 f0_11 f0_12 f0_13 f0_14 f0_15 f1_0 f1_1 f1_2 f1_3 f1_4 f1_5 f1_6 f1_7 f1_8 f1_9 f1_10 f1_11 f1_12 f1_13 f1_14 f1_15
          go_wp2_with fail
          refine (k_script _ _ S0 _ _ _ X0.out X1'.out).mono ?_
          rintro e w5 ⟨rfl, hb5⟩
          have HB5 := Lib.hid (kept_trans HB4.out hb5)
          have M2 := Lib.hid (M2'.out.below hb5 M2'.out.lt)
          have X2 := Lib.hid (Holds.upto X2'.out (Old.of_below hb5))
          have M3' := Lib.hid (M3.out.below hb5 M3.out.lt)
          have X3' := Lib.hid (Holds.upto X3.out (Old.of_below hb5))
          clear hb5 M0 X0 M1' X1' HB4 M2' X2' M3 X3 f0_0 f0_1 f0_2 f0_3 f0_4 f0_5 f0_6 f0_7 f0_8 f0_9 f0_10 f0_11 f0_12 f0_13 f0_14 f0_15 f1_0 f1_1 f1_2 f1_3 f1_4 f1_5 f1_6 f1_7 f1_8 f1_9 f1_10 f1_11 f1_12 f1_13 f1_14 f1_15
          as_aux_lemma =>
            have f2_0 := M2.out.cell 0
            have f2_1 := M2.out.cell 1
            have f2_2 := M2.out.cell 2
            have f2_3 := M2.out.cell 3
            have f2_4 := M2.out.cell 4
            have f2_5 := M2.out.cell 5
            have f2_6 := M2.out.cell 6
            have f2_7 := M2.out.cell 7
            have f2_8 := M2.out.cell 8
            have f2_9 := M2.out.cell 9
            have f2_10 := M2.out.cell 10
            have f2_11 := M2.out.cell 11
            have f2_12 := M2.out.cell 12
            have f2_13 := M2.out.cell 13
            have f2_14 := M2.out.cell 14
            have f2_15 := M2.out.cell 15
            have f3_0 := M3'.out.cell 0
            have f3_1 := M3'.out.cell 1
            have f3_2 := M3'.out.cell 2
            have f3_3 := M3'.out.cell 3
            have f3_4 := M3'.out.cell 4
            have f3_5 := M3'.out.cell 5
            have f3_6 := M3'.out.cell 6
            have f3_7 := M3'.out.cell 7
            have f3_8 := M3'.out.cell 8
            have f3_9 := M3'.out.cell 9
            have f3_10 := M3'.out.cell 10
            have f3_11 := M3'.out.cell 11
            have f3_12 := M3'.out.cell 12
            have f3_13 := M3'.out.cell 13
            have f3_14 := M3'.out.cell 14
            have f3_15 := M3'.out.cell 15
            simp at f2_0 f2_1 f2_2 f2_3 f2_4 f2_5 f2_6 f2_7 f2_8 f2_9 f2_10 f2_11 f2_12 f2_13 f2_14 f2_15 f3_0 f3_1 f3_2 f3_3 f3_4 f3_5 f3_6 f3_7 f3_8 f3_9 f3_10 f3_11 f3_12 f3_13 f3_14 f3_15
            go_wp2_with fail
            refine (k_script _ _ S4 _ _ _ X2.out X3'.out).mono ?_
            rintro e w6 ⟨rfl, hb6⟩
            have HB6 := Lib.hid (kept_trans HB5.out hb6)
            clear hb6 HB5 M2 X2 M3' X3' f2_0 f2_1 f2_2 f2_3 f2_4 f2_5 f2_6 f2_7 f2_8 f2_9 f2_10 f2_11 f2_12 f2_13 f2_14 f2_15 f3_0 f3_1 f3_2 f3_3 f3_4 f3_5 f3_6 f3_7 f3_8 f3_9 f3_10 f3_11 f3_12 f3_13 f3_14 f3_15
            go_wp2_with fail
            refine (a_awake _).mono ?_
            rintro e w7 ⟨rfl, hb7⟩
            go_wp2
            go_ret
            exact ⟨rfl, Kept.of_below (kept_trans HB6.out hb7)⟩
end Go.Proofs.Ytafidppjabdecaa.CodeDe
