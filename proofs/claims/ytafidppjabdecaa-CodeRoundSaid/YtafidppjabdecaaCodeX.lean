/-
  The walk of CodeRound, in three.
-/
import Derived.Test.YtafidppjabdecaaCodeV
import Derived.Deep.DeepCutAuto
namespace Go.Proofs.Ytafidppjabdecaa.CodeX
open Go.ChangeShapes Go.WideShapes Go.ChangeAt Go.RowKit
open LawFrame
set_option linter.unusedVariables false
set_option maxHeartbeats 1000000
open PlainT BlkW CodeS CodeW CodeA CodeP CodeO CodeI CodeH CodeD CodeT CodeU CodeV

/-- Without programs the bytes are few. -/
theorem few (s : Scr) (ok : s.Ok) (h1 : s.init.length ≤ 40) (h2 : s.progs = []) (h3 : s.picks.length ≤ 60) : (bytesOf s).length ≤ 2000 := by
  have hs := CodeB.flat_len s.cfg ok.cfg.2
  have hk := CodeB.flat_len s.picks ok.picks.2
  have hi : ∀ (z : List Int), (∀ x ∈ z, InU x) → (z.flatMap uB).length ≤ z.length * 10 := by
    intro z
    induction z with
    | nil => intro _; simp
    | cons a r ih =>
      intro h
      have e1 := ih (fun x hx => h x (by simp [hx]))
      have e2 := uB_ten (h a (by simp))
      simp only [List.flatMap_cons, List.length_append, List.length_cons]
      omega
  have hi' := hi s.init ok.init.2
  have l1 : (uB (s.init.length : Int)).length ≤ 10 := uB_ten ⟨by omega, by omega⟩
  have l3 : (uB (s.picks.length : Int)).length ≤ 10 := uB_ten ⟨by omega, by omega⟩
  have l2 : (uB ((([] : List (List (List Int))).length : Nat) : Int)).length ≤ 10 := uB_ten ⟨by simp, by simp⟩
  have lc := ok.cfg.1
  unfold bytesOf headB listB
  rw [h2]
  simp only [List.length_append, List.length_cons, List.length_nil, List.flatMap_nil] at l2 ⊢
  omega
theorem kept_trans {a b c : World} (h : Below a.heap.size a b) (k : Below b.heap.size b c) : Below a.heap.size a c := h.trans (k.mono h.size)
set_option maxHeartbeats 8000000 in
set_option maxRecDepth 100000 in
theorem round_long (w : World) (s0 : Scr) (v0 : Value) (hs0 : Holds w w.heap.size s0 v0) (hlong : 262144 < (bytesOf s0).length) (q1 : s0.init.length ≤ 40) (q2 : s0.progs.length ≤ 10) (q3 : s0.picks.length ≤ 60) :
    Calls Try.prog 4 #[v0] w fun e w' => e = .returned (.bool true) ∧ Kept w w' := by
  obtain ⟨x0, x1, x2, x3, x4, x5, x6, x7, x8, x9, x10, x11, Ai, ni, ci, Ap, np, cp, Ak, nk, ck, e1, rfl, hx, ⟨i1, i2, i3⟩, ⟨p1, p2, p3⟩, ⟨k1, k2, k3⟩⟩ := id hs0
  have hok := Holds.ok hs0
  have li := i3.1
  have lp := p3.1
  have lk := k3.1
  unfold maxLen at i2 p2 k2
  obtain ⟨w1, hw1⟩ : ∃ w1, w1 = w.alloc (.cells #[.int .i64 x0, .int .i64 x1, .int .i64 x2, .int .i64 x3, .int .i64 x4, .int .i64 x5, .int .i64 x6, .int .i64 x7, .int .i64 x8, .int .i64 x9, .int .i64 x10, .int .i64 x11, .bool s0.strong, .slice Ai ni ci, .slice Ap np cp, .slice Ak nk ck] 29) := ⟨_, rfl⟩
  have hb1 : Below w.heap.size w w1 := hw1 ▸ below_new w _
  have hm1 : Mem w1 w.heap.size 29 #[.int .i64 x0, .int .i64 x1, .int .i64 x2, .int .i64 x3, .int .i64 x4, .int .i64 x5, .int .i64 x6, .int .i64 x7, .int .i64 x8, .int .i64 x9, .int .i64 x10, .int .i64 x11, .bool s0.strong, .slice Ai ni ci, .slice Ap np cp, .slice Ak nk ck] := hw1 ▸ Mem.new w _ _
  have hh1 := Holds.upto hs0 (Old.of_below hb1)
  have HW := Lib.hid hw1
  have HM := Lib.hid hm1
  have HH := Lib.hid hh1
  have HB := Lib.hid hb1
  have HOK := Lib.hid hok
  have HI := Lib.hid li
  have HP := Lib.hid lp
  have HK := Lib.hid lk
  have f0 := hm1.cell 0
  have f1 := hm1.cell 1
  have f2 := hm1.cell 2
  have f3 := hm1.cell 3
  have f4 := hm1.cell 4
  have f5 := hm1.cell 5
  have f6 := hm1.cell 6
  have f7 := hm1.cell 7
  have f8 := hm1.cell 8
  have f9 := hm1.cell 9
  have f10 := hm1.cell 10
  have f11 := hm1.cell 11
  have f12 := hm1.cell 12
  have f13 := hm1.cell 13
  have f14 := hm1.cell 14
  have f15 := hm1.cell 15
  simp at f0 f1 f2 f3 f4 f5 f6 f7 f8 f9 f10 f11 f12 f13 f14 f15
  have hgl := hm1.lt
  clear hb1 hm1 hh1 hw1 hok li lp lk i3 p3 k3 hx e1 hs0
  have c1 : ni ≤ 40 := by have := HI.out; omega
  have c2 : np ≤ 10 := by have := HP.out; omega
  have c3 : nk ≤ 60 := by have := HK.out; omega
  have HLO := Lib.hid hlong
  clear hlong q1 q2 q3
  go_enter Try.func4, Try.ntmps4
  go_upto_region 1 with (fail)
  rw [← HW.out]
  clear HW
  go_wp2_with fail
  obtain ⟨l, hl⟩ : ∃ l, bytesOf s0 = l := ⟨_, rfl⟩
  refine (enc_holds HH.out l hl).mono ?_
  rintro e w2 ⟨hb2, h2⟩
  have HM2 := Lib.hid (HM.out.below hb2 HM.out.lt)
  have HH2 := Lib.hid (Holds.upto HH.out (Old.of_below hb2))
  have HB2 := Lib.hid (kept_trans HB.out hb2)
  have HL := Lib.hid hl
  clear HM HH HB hl hb2
  obtain ⟨h2, rfl⟩ : 262144 < l.length ∧ e = .returned (.tuple #[.slice none 0 0, .int .i64 3]) := by
    rcases h2 with h2 | ⟨h2, _⟩
    · exact h2
    · have := HLO.out; rw [HL.out] at this; omega
  have hnp : 0 < np := by
    rcases Nat.eq_zero_or_pos np with h0 | h0
    · have := few s0 HOK.out (by have := HI.out; omega) (List.eq_nil_of_length_eq_zero (by have := HP.out; omega)) (by have := HK.out; omega)
      rw [HL.out] at this
      omega
    · exact h0
  clear h2
  go_wp2_with fail
  refine (a_decode none 0 0 [] _ (Nat.le_refl _) (Nat.zero_le _) ⟨rfl, by simp, fun h => absurd h (by omega)⟩).mono ?_
  rintro e w3 ⟨hb3, h3⟩
  have hm3 := HM2.out.below hb3 HM2.out.lt
  have f14' := hm3.cell 14
  simp at f14'
  have hg3 := hm3.lt
  have HB3 := Lib.hid (kept_trans HB2.out hb3)
  rcases h3 with ⟨h3, _⟩ | ⟨_, ⟨_, rfl⟩ | ⟨s', v', h3, _⟩⟩
  · simp at h3
  · unfold zeroV
    clear hb3 hm3
    go_wp2_with fail
    refine (a_awake _).mono ?_
    rintro e w4 ⟨rfl, hb4⟩
    go_wp2
    go_ret
    exact ⟨rfl, Kept.of_below (kept_trans (HB3.out.alloc HB3.out.size _) hb4)⟩
  · rw [show decP [] = none from rfl] at h3; cases h3
set_option maxHeartbeats 8000000 in
set_option maxRecDepth 100000 in
theorem round_short (w : World) (s0 : Scr) (v0 : Value) (hs0 : Holds w w.heap.size s0 v0) (hshort : (bytesOf s0).length ≤ 262144) (q1 : s0.init.length ≤ 40) (q2 : s0.progs.length ≤ 10) (q3 : s0.picks.length ≤ 60) :
    Calls Try.prog 4 #[v0] w fun e w' => e = .returned (.bool true) ∧ Kept w w' := by
  obtain ⟨x0, x1, x2, x3, x4, x5, x6, x7, x8, x9, x10, x11, Ai, ni, ci, Ap, np, cp, Ak, nk, ck, e1, rfl, hx, ⟨i1, i2, i3⟩, ⟨p1, p2, p3⟩, ⟨k1, k2, k3⟩⟩ := id hs0
  have hok := Holds.ok hs0
  have li := i3.1
  have lp := p3.1
  have lk := k3.1
  unfold maxLen at i2 p2 k2
  obtain ⟨w1, hw1⟩ : ∃ w1, w1 = w.alloc (.cells #[.int .i64 x0, .int .i64 x1, .int .i64 x2, .int .i64 x3, .int .i64 x4, .int .i64 x5, .int .i64 x6, .int .i64 x7, .int .i64 x8, .int .i64 x9, .int .i64 x10, .int .i64 x11, .bool s0.strong, .slice Ai ni ci, .slice Ap np cp, .slice Ak nk ck] 29) := ⟨_, rfl⟩
  have hb1 : Below w.heap.size w w1 := hw1 ▸ below_new w _
  have hm1 : Mem w1 w.heap.size 29 #[.int .i64 x0, .int .i64 x1, .int .i64 x2, .int .i64 x3, .int .i64 x4, .int .i64 x5, .int .i64 x6, .int .i64 x7, .int .i64 x8, .int .i64 x9, .int .i64 x10, .int .i64 x11, .bool s0.strong, .slice Ai ni ci, .slice Ap np cp, .slice Ak nk ck] := hw1 ▸ Mem.new w _ _
  have hh1 := Holds.upto hs0 (Old.of_below hb1)
  have HW := Lib.hid hw1
  have HM := Lib.hid hm1
  have HH := Lib.hid hh1
  have HB := Lib.hid hb1
  have HOK := Lib.hid hok
  have HI := Lib.hid li
  have HP := Lib.hid lp
  have HK := Lib.hid lk
  have f0 := hm1.cell 0
  have f1 := hm1.cell 1
  have f2 := hm1.cell 2
  have f3 := hm1.cell 3
  have f4 := hm1.cell 4
  have f5 := hm1.cell 5
  have f6 := hm1.cell 6
  have f7 := hm1.cell 7
  have f8 := hm1.cell 8
  have f9 := hm1.cell 9
  have f10 := hm1.cell 10
  have f11 := hm1.cell 11
  have f12 := hm1.cell 12
  have f13 := hm1.cell 13
  have f14 := hm1.cell 14
  have f15 := hm1.cell 15
  simp at f0 f1 f2 f3 f4 f5 f6 f7 f8 f9 f10 f11 f12 f13 f14 f15
  have hgl := hm1.lt
  clear hb1 hm1 hh1 hw1 hok li lp lk i3 p3 k3 hx e1 hs0
  have c1 : ni ≤ 40 := by have := HI.out; omega
  have c2 : np ≤ 10 := by have := HP.out; omega
  have c3 : nk ≤ 60 := by have := HK.out; omega
  have HLO := Lib.hid hshort
  clear hshort q1 q2 q3
  go_enter Try.func4, Try.ntmps4
  go_upto_region 1 with (fail)
  rw [← HW.out]
  clear HW
  go_wp2_with fail
  obtain ⟨l, hl⟩ : ∃ l, bytesOf s0 = l := ⟨_, rfl⟩
  refine (enc_holds HH.out l hl).mono ?_
  rintro e w2 ⟨hb2, h2⟩
  have HM2 := Lib.hid (HM.out.below hb2 HM.out.lt)
  have HH2 := Lib.hid (Holds.upto HH.out (Old.of_below hb2))
  have HB2 := Lib.hid (kept_trans HB.out hb2)
  have HL := Lib.hid hl
  clear HM HH HB hl hb2
  obtain ⟨hle, A, c, rfl, hrw⟩ : l.length ≤ 262144 ∧ ∃ A c, e = .returned (.tuple #[.slice A l.length c, .int .i64 0]) ∧ Rw w1.heap.size w2 (.slice A l.length c) l := by
    rcases h2 with ⟨h2, _⟩ | h2
    · have := HLO.out; rw [HL.out] at this; omega
    · exact h2
  have hby : ∀ b ∈ l, InB b := HL.out ▸ bytes_byte s0 HOK.out
  have hi2 := (hrw.ints hby).2
  obtain ⟨_, _, e0, hl1, hl2⟩ := hrw.slice
  injection e0 with e1 _ e3
  subst e1 e3
  have HD := Lib.hid (HL.out ▸ dec_bytes s0 HOK.out)
  have H2 := Lib.hid hle
  have HI2 := Lib.hid hi2
  have HBY := Lib.hid hby
  clear hrw hle hi2 hby
  go_wp2_with fail
  refine (a_decode _ _ _ l _ hl1 hl2 HI2.out).mono ?_
  rintro e w3 hd
  obtain ⟨hb3, v, rfl, hh3⟩ := dec_yes hd H2.out HBY.out HD.out
  have hm3 := HM2.out.below hb3 HM2.out.lt
  have HH3 := Lib.hid (Holds.upto HH2.out (Old.of_below hb3))
  have HB3 := Lib.hid (kept_trans HB2.out hb3)
  have HX := Lib.hid hh3
  obtain ⟨y0, y1, y2, y3, y4, y5, y6, y7, y8, y9, y10, y11, b, Bi, mi, di, Bp, mp, dp, Bk, mk, dk, rfl⟩ := Holds.agg hh3
  have g0 := hm3.cell 0
  have g1 := hm3.cell 1
  have g2 := hm3.cell 2
  have g3 := hm3.cell 3
  have g4 := hm3.cell 4
  have g5 := hm3.cell 5
  have g6 := hm3.cell 6
  have g7 := hm3.cell 7
  have g8 := hm3.cell 8
  have g9 := hm3.cell 9
  have g10 := hm3.cell 10
  have g11 := hm3.cell 11
  have g12 := hm3.cell 12
  have g13 := hm3.cell 13
  have g14 := hm3.cell 14
  have g15 := hm3.cell 15
  simp at g0 g1 g2 g3 g4 g5 g6 g7 g8 g9 g10 g11 g12 g13 g14 g15
  have hg3 := hm3.lt
  have hN := (Old.refl w3).alloc (.cells #[.int .i64 y0, .int .i64 y1, .int .i64 y2, .int .i64 y3, .int .i64 y4, .int .i64 y5, .int .i64 y6, .int .i64 y7, .int .i64 y8, .int .i64 y9, .int .i64 y10, .int .i64 y11, .bool b, .slice Bi mi di, .slice Bp mp dp, .slice Bk mk dk] 29)
  have X1 := Lib.hid (Holds.upto HX.out hN)
  have X2 := Lib.hid (Holds.upto HH3.out hN)
  clear hd hb3 hm3 hh3 HX HH3 HH2 HM2 HB2 HI2 hN HD HL HBY f0 f1 f2 f3 f4 f5 f6 f7 f8 f9 f10 f11 f12 f13 f14 f15
  go_wp2_with fail
  refine (k_script _ _ s0 _ _ _ X1.out X2.out).mono ?_
  rintro e w5 ⟨rfl, hb5⟩
  have HB5 := Lib.hid (kept_trans (HB3.out.alloc HB3.out.size _) hb5)
  clear hb5 X1 X2 HB3
  go_wp2_with fail
  refine (a_awake _).mono ?_
  rintro e w6 ⟨rfl, hb6⟩
  go_wp2
  go_ret
  exact ⟨rfl, Kept.of_below (kept_trans HB5.out hb6)⟩
set_option maxHeartbeats 8000000 in
set_option maxRecDepth 100000 in
theorem round_big (w : World) (s0 : Scr) (v0 : Value) (hs0 : Holds w w.heap.size s0 v0) (hbig : ¬ (s0.init.length ≤ 40 ∧ s0.progs.length ≤ 10 ∧ s0.picks.length ≤ 60)) :
    Calls Try.prog 4 #[v0] w fun e w' => e = .returned (.bool true) ∧ Kept w w' := by
  obtain ⟨x0, x1, x2, x3, x4, x5, x6, x7, x8, x9, x10, x11, Ai, ni, ci, Ap, np, cp, Ak, nk, ck, e1, rfl, hx, ⟨i1, i2, i3⟩, ⟨p1, p2, p3⟩, ⟨k1, k2, k3⟩⟩ := id hs0
  have hok := Holds.ok hs0
  have li := i3.1
  have lp := p3.1
  have lk := k3.1
  unfold maxLen at i2 p2 k2
  obtain ⟨w1, hw1⟩ : ∃ w1, w1 = w.alloc (.cells #[.int .i64 x0, .int .i64 x1, .int .i64 x2, .int .i64 x3, .int .i64 x4, .int .i64 x5, .int .i64 x6, .int .i64 x7, .int .i64 x8, .int .i64 x9, .int .i64 x10, .int .i64 x11, .bool s0.strong, .slice Ai ni ci, .slice Ap np cp, .slice Ak nk ck] 29) := ⟨_, rfl⟩
  have hb1 : Below w.heap.size w w1 := hw1 ▸ below_new w _
  have hm1 : Mem w1 w.heap.size 29 #[.int .i64 x0, .int .i64 x1, .int .i64 x2, .int .i64 x3, .int .i64 x4, .int .i64 x5, .int .i64 x6, .int .i64 x7, .int .i64 x8, .int .i64 x9, .int .i64 x10, .int .i64 x11, .bool s0.strong, .slice Ai ni ci, .slice Ap np cp, .slice Ak nk ck] := hw1 ▸ Mem.new w _ _
  have hh1 := Holds.upto hs0 (Old.of_below hb1)
  have HW := Lib.hid hw1
  have HM := Lib.hid hm1
  have HH := Lib.hid hh1
  have HB := Lib.hid hb1
  have HOK := Lib.hid hok
  have HI := Lib.hid li
  have HP := Lib.hid lp
  have HK := Lib.hid lk
  have f0 := hm1.cell 0
  have f1 := hm1.cell 1
  have f2 := hm1.cell 2
  have f3 := hm1.cell 3
  have f4 := hm1.cell 4
  have f5 := hm1.cell 5
  have f6 := hm1.cell 6
  have f7 := hm1.cell 7
  have f8 := hm1.cell 8
  have f9 := hm1.cell 9
  have f10 := hm1.cell 10
  have f11 := hm1.cell 11
  have f12 := hm1.cell 12
  have f13 := hm1.cell 13
  have f14 := hm1.cell 14
  have f15 := hm1.cell 15
  simp at f0 f1 f2 f3 f4 f5 f6 f7 f8 f9 f10 f11 f12 f13 f14 f15
  have hgl := hm1.lt
  clear hb1 hm1 hh1 hw1 hok li lp lk i3 p3 k3 hx e1 hs0
  have hsm : ¬ (ni ≤ 40 ∧ np ≤ 10 ∧ nk ≤ 60) := by have := HI.out; have := HP.out; have := HK.out; omega
  clear hbig
  have hc : 40 < ni ∨ ni ≤ 40 ∧ 10 < np ∨ ni ≤ 40 ∧ np ≤ 10 ∧ 60 < nk := by omega
  clear hsm
  rcases hc with c1 | ⟨c1, c2⟩ | ⟨c1, c2, c3⟩
  all_goals
    go_enter Try.func4, Try.ntmps4
    go_upto_region 1 with (fail)
    rw [← HW.out]
    clear HW
    go_wp2_with (go_at_call 9; refine (a_awake _).mono ?_; rintro e w2 ⟨rfl, hb2⟩)
    go_ret
    exact ⟨rfl, Kept.of_below (kept_trans HB.out hb2)⟩
end Go.Proofs.Ytafidppjabdecaa.CodeX
