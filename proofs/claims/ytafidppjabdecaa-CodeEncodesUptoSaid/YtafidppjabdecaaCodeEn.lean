/-
  The walk of CodeEncodes.
-/
import Derived.Test.YtafidppjabdecaaCodeV
import Derived.Test.YtafidppjabdecaaCodeZ
import Derived.Test.YtafidppjabdecaaCodeSame
import Derived.Test.YtafidppjabdecaaCodeTU
namespace Go.Proofs.Ytafidppjabdecaa.CodeEn
open Go.ChangeShapes Go.WideShapes Go.ChangeAt Go.RowKit
open LawFrame
set_option linter.unusedVariables false
set_option maxHeartbeats 1000000
open PlainT BlkW CodeS CodeW CodeA CodeP CodeO CodeI CodeH CodeD CodeT CodeU CodeV CodeZ CodeSame CodeTU

theorem kept_trans {a b c : World} (h : Below a.heap.size a b) (k : Below b.heap.size b c) : Below a.heap.size a c := h.trans (k.mono h.size)
set_option maxHeartbeats 8000000 in
set_option maxRecDepth 100000 in
theorem enc_big (w : World) (sc : Scr) (v0 : Value) (hsc : Holds w w.heap.size sc v0) (hbig : ¬ (sc.init.length ≤ 40 ∧ sc.progs.length ≤ 10 ∧ sc.picks.length ≤ 60)) :
    Calls Try.prog 3 #[v0] w fun e w' => e = .returned (.bool true) ∧ Kept w w' := by
  obtain ⟨x0, x1, x2, x3, x4, x5, x6, x7, x8, x9, x10, x11, Ai, ni, ci, Ap, np, cp, Ak, nk, ck, e1, rfl, hx, ⟨i1, i2, i3⟩, ⟨p1, p2, p3⟩, ⟨k1, k2, k3⟩⟩ := id hsc
  have hok := Holds.ok hsc
  have li := i3.1
  have lp := p3.1
  have lk := k3.1
  unfold maxLen at i2 p2 k2
  obtain ⟨w1, hw1⟩ : ∃ w1, w1 = w.alloc (.cells #[.int .i64 x0, .int .i64 x1, .int .i64 x2, .int .i64 x3, .int .i64 x4, .int .i64 x5, .int .i64 x6, .int .i64 x7, .int .i64 x8, .int .i64 x9, .int .i64 x10, .int .i64 x11, .bool sc.strong, .slice Ai ni ci, .slice Ap np cp, .slice Ak nk ck] 29) := ⟨_, rfl⟩
  have hb1 : Below w.heap.size w w1 := hw1 ▸ below_new w _
  have hm1 : Mem w1 w.heap.size 29 #[.int .i64 x0, .int .i64 x1, .int .i64 x2, .int .i64 x3, .int .i64 x4, .int .i64 x5, .int .i64 x6, .int .i64 x7, .int .i64 x8, .int .i64 x9, .int .i64 x10, .int .i64 x11, .bool sc.strong, .slice Ai ni ci, .slice Ap np cp, .slice Ak nk ck] := hw1 ▸ Mem.new w _ _
  have hh1 := Holds.upto hsc (Old.of_below hb1)
  have HW := Lib.hid hw1
  have HM := Lib.hid hm1
  have HH := Lib.hid hh1
  have HB := Lib.hid hb1
  have HOK := Lib.hid hok
  have HI := Lib.hid li
  have HP := Lib.hid lp
  have HK := Lib.hid lk
  have f0 := hm1.cell 0
  have f1 := hm1.cell 1
  have f2 := hm1.cell 2
  have f3 := hm1.cell 3
  have f4 := hm1.cell 4
  have f5 := hm1.cell 5
  have f6 := hm1.cell 6
  have f7 := hm1.cell 7
  have f8 := hm1.cell 8
  have f9 := hm1.cell 9
  have f10 := hm1.cell 10
  have f11 := hm1.cell 11
  have f12 := hm1.cell 12
  have f13 := hm1.cell 13
  have f14 := hm1.cell 14
  have f15 := hm1.cell 15
  simp at f0 f1 f2 f3 f4 f5 f6 f7 f8 f9 f10 f11 f12 f13 f14 f15
  have hgl := hm1.lt
  clear hb1 hm1 hh1 hw1 hok li lp lk i3 p3 k3 hx e1 hsc
  have hsm : ¬ (ni ≤ 40 ∧ np ≤ 10 ∧ nk ≤ 60) := by have := HI.out; have := HP.out; have := HK.out; omega
  clear hbig
  have hc : 40 < ni ∨ ni ≤ 40 ∧ 10 < np ∨ ni ≤ 40 ∧ np ≤ 10 ∧ 60 < nk := by omega
  clear hsm
  rcases hc with c1 | ⟨c1, c2⟩ | ⟨c1, c2, c3⟩
  all_goals
    go_enter Try.func3, Try.ntmps3
    go_upto_region 1 with (fail)
    rw [← HW.out]
    clear HW
    go_wp2_with (go_at_call 9; refine (a_awake _).mono ?_; rintro e w2 ⟨rfl, hb2⟩)
    go_ret
    exact ⟨rfl, Kept.of_below (kept_trans HB.out hb2)⟩
set_option maxHeartbeats 8000000 in
set_option maxRecDepth 100000 in
theorem enc_small (w : World) (sc : Scr) (v0 : Value) (hsc : Holds w w.heap.size sc v0) (q1 : sc.init.length ≤ 40) (q2 : sc.progs.length ≤ 10) (q3 : sc.picks.length ≤ 60) (qp : ∀ p ∈ sc.progs, p.length ≤ 1048576) :
    Calls Try.prog 3 #[v0] w fun e w' => e = .returned (.bool true) ∧ Kept w w' := by
  obtain ⟨x0, x1, x2, x3, x4, x5, x6, x7, x8, x9, x10, x11, Ai, ni, ci, Ap, np, cp, Ak, nk, ck, e1, rfl, hx, ⟨i1, i2, i3⟩, ⟨p1, p2, p3⟩, ⟨k1, k2, k3⟩⟩ := id hsc
  have hok := Holds.ok hsc
  have li := i3.1
  have lp := p3.1
  have lk := k3.1
  unfold maxLen at i2 p2 k2
  obtain ⟨w1, hw1⟩ : ∃ w1, w1 = w.alloc (.cells #[.int .i64 x0, .int .i64 x1, .int .i64 x2, .int .i64 x3, .int .i64 x4, .int .i64 x5, .int .i64 x6, .int .i64 x7, .int .i64 x8, .int .i64 x9, .int .i64 x10, .int .i64 x11, .bool sc.strong, .slice Ai ni ci, .slice Ap np cp, .slice Ak nk ck] 29) := ⟨_, rfl⟩
  have hb1 : Below w.heap.size w w1 := hw1 ▸ below_new w _
  have hm1 : Mem w1 w.heap.size 29 #[.int .i64 x0, .int .i64 x1, .int .i64 x2, .int .i64 x3, .int .i64 x4, .int .i64 x5, .int .i64 x6, .int .i64 x7, .int .i64 x8, .int .i64 x9, .int .i64 x10, .int .i64 x11, .bool sc.strong, .slice Ai ni ci, .slice Ap np cp, .slice Ak nk ck] := hw1 ▸ Mem.new w _ _
  have hh1 := Holds.upto hsc (Old.of_below hb1)
  have HW := Lib.hid hw1
  have HM := Lib.hid hm1
  have HH := Lib.hid hh1
  have HB := Lib.hid hb1
  have HOK := Lib.hid hok
  have HI := Lib.hid li
  have HP := Lib.hid lp
  have HK := Lib.hid lk
  have f0 := hm1.cell 0
  have f1 := hm1.cell 1
  have f2 := hm1.cell 2
  have f3 := hm1.cell 3
  have f4 := hm1.cell 4
  have f5 := hm1.cell 5
  have f6 := hm1.cell 6
  have f7 := hm1.cell 7
  have f8 := hm1.cell 8
  have f9 := hm1.cell 9
  have f10 := hm1.cell 10
  have f11 := hm1.cell 11
  have f12 := hm1.cell 12
  have f13 := hm1.cell 13
  have f14 := hm1.cell 14
  have f15 := hm1.cell 15
  simp at f0 f1 f2 f3 f4 f5 f6 f7 f8 f9 f10 f11 f12 f13 f14 f15
  have hgl := hm1.lt
  obtain ⟨l, hl⟩ : ∃ l, bytesOf sc = l := ⟨_, rfl⟩
  have HBY := Lib.hid (show ∀ b ∈ l, InB b from hl ▸ bytes_byte _ hok)
  have HLE := Lib.hid (show l.length ≤ 800000000000 from hl ▸ bytes_len sc hok q1 q2 q3 qp)
  have HL := Lib.hid hl
  clear hl hb1 hm1 hh1 hw1 hok li lp lk i3 p3 k3 hx e1 hsc
  have c1 : ni ≤ 40 := by have := HI.out; omega
  have c2 : np ≤ 10 := by have := HP.out; omega
  have c3 : nk ≤ 60 := by have := HK.out; omega
  clear q1 q2 q3 qp
  go_enter Try.func3, Try.ntmps3
  go_upto_region 1 with (fail)
  rw [← HW.out]
  clear HW
  go_wp2_with fail
  refine (enc_holds HH.out l HL.out).mono ?_
  rintro e w3 h3
  obtain ⟨hb3, A3, n3, c3', rfl, hi3, _, _⟩ := enc_any h3 HBY.out
  obtain ⟨E, hE⟩ : ∃ E, errL l = E := ⟨_, rfl⟩
  rw [hE]
  have HE := Lib.hid hE
  have HM3 := Lib.hid (HM.out.below hb3 HM.out.lt)
  have HH3 := Lib.hid (Holds.upto HH.out (Old.of_below hb3))
  have HB3 := Lib.hid (kept_trans HB.out hb3)
  have HI3 := Lib.hid hi3
  have fl3 := HM3.out.cell
  have g0 := fl3 0
  have g1 := fl3 1
  have g2 := fl3 2
  have g3 := fl3 3
  have g4 := fl3 4
  have g5 := fl3 5
  have g6 := fl3 6
  have g7 := fl3 7
  have g8 := fl3 8
  have g9 := fl3 9
  have g10 := fl3 10
  have g11 := fl3 11
  have g12 := fl3 12
  have g13 := fl3 13
  have g14 := fl3 14
  have g15 := fl3 15
  simp at g0 g1 g2 g3 g4 g5 g6 g7 g8 g9 g10 g11 g12 g13 g14 g15
  clear h3 hb3 hi3 hE fl3 HM HH HB f0 f1 f2 f3 f4 f5 f6 f7 f8 f9 f10 f11 f12 f13 f14 f15
  go_wp2_with fail
  refine (r_encode HH3.out l HL.out HLE.out).mono ?_
  rintro e w4 h4
  obtain ⟨hb4, A4, n4, c4, rfl, hi4, _, _⟩ := enc_any h4 HBY.out
  obtain rfl : n3 = n4 := by rw [← HI3.out.1, hi4.1]
  rw [HE.out]
  have HB4 := Lib.hid (kept_trans HB3.out hb4)
  have HI3' := Lib.hid (CodeZ.Ints.upto HI3.out hb4)
  have HI4 := Lib.hid hi4
  clear h4 hb4 hi4 HB3 HI3 HH3 HM3 HE HL HLE HBY g0 g1 g2 g3 g4 g5 g6 g7 g8 g9 g10 g11 g12 g13 g14 g15
  go_wp2_with fail
  refine (a_same _ _ _ _ _ _ _ HI3'.out HI4.out).mono ?_
  rintro e w7 ⟨rfl, rfl⟩
  go_wp2_with fail
  refine (a_awake _).mono ?_
  rintro e w8 ⟨rfl, hb8⟩
  go_wp2
  go_ret
  exact ⟨rfl, Kept.of_below (kept_trans HB4.out hb8)⟩
end Go.Proofs.Ytafidppjabdecaa.CodeEn
