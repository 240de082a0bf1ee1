/-
  The walk of CodeCanonical.
-/
import Derived.Test.YtafidppjabdecaaCodeV
import Derived.Test.YtafidppjabdecaaCodeZ
import Derived.Test.YtafidppjabdecaaCodeSame
import Derived.Test.YtafidppjabdecaaCodeQ
import Derived.Deep.DeepCutAuto
import Derived.Deep.RegionHeld3
import Derived.Deep.RegionLaw
namespace Go.Proofs.Ytafidppjabdecaa.CodeCa
open Go.ChangeShapes Go.WideShapes Go.ChangeAt Go.RowKit
open LawFrame
set_option linter.unusedVariables false
set_option maxHeartbeats 1000000
open PlainT BlkW CodeS CodeW CodeA CodeP CodeO CodeI CodeH CodeD CodeT CodeU CodeV CodeZ CodeSame CodeQ

theorem kept_trans {a b c : World} (h : Below a.heap.size a b) (k : Below b.heap.size b c) : Below a.heap.size a c := h.trans (k.mono h.size)
theorem bits_wf (a b : Int) : (Lit.int .u8 (bits BinOp.xor IntKind.u8 a b)).wf = true := by
  have h := bits_within BinOp.xor IntKind.u8 a b
  simpa [Lit.wf] using h
theorem bytes_five (s : Scr) : 4 < (bytesOf s).length := by
  unfold bytesOf headB
  simp only [List.length_append, List.length_cons, List.length_nil]
  omega
theorem enc_row {l : List Int} {w w' : World} {e : Ending} (h : EncIs l w e w') (hb : ∀ b ∈ l, InB b) (hl : 4 < l.length) : Below w.heap.size w w' ∧ ∃ A n c, e = .returned (.tuple #[.slice A n c, .int .i64 (errL l)]) ∧ Ints .u8 w' A n (bytL l) ∧ n ≤ c ∧ c ≤ maxLen ∧ (errL l = 0 → ∃ g cur, A = some ⟨g, 0, none⟩ ∧ w.heap.size ≤ g ∧ Mem w' g 5 cur) := by
  obtain ⟨h1, h2⟩ := h
  refine ⟨h1, ?_⟩
  rcases h2 with ⟨h3, rfl⟩ | ⟨h3, A, c, rfl, hr⟩
  · refine ⟨none, 0, 0, ?_, ?_, Nat.le_refl _, Nat.zero_le _, fun h0 => ?_⟩
    · unfold errL; rw [if_pos h3]
    · unfold bytL; rw [if_pos h3]; exact ⟨rfl, by simp, fun h => absurd h (by omega)⟩
    · unfold errL at h0; rw [if_pos h3] at h0; cases h0
  · obtain ⟨A', c', e0, h4, h5⟩ := hr.slice
    injection e0 with e1 e2 e3
    subst e1 e3
    refine ⟨A, l.length, c, ?_, ?_, h4, h5, fun _ => ?_⟩
    · unfold errL; rw [if_neg (by omega)]
    · unfold bytL; rw [if_neg (by omega)]; exact (hr.ints hb).2
    · rcases hr with ho | ⟨h6, _⟩
      · obtain ⟨g, cap, cur, e, h7, h8, _⟩ := own_cells ho (by omega)
        injection e with e1 e2 e3
        exact ⟨g, cur, e1, h7, h8⟩
      · omega
/-- Place. -/
theorem a_place_v (a n : Int) (hn : 1 ≤ n) (hm : n ≤ 9223372036854775807) (ha : InI a) (w : World) : Calls Try.prog 16 #[.int .i64 a, .int .i64 n] w fun e w' => e = .returned (.int .i64 (IntKind.u64.wrap a % n)) ∧ w = w' := by
  have hs0 : IntKind.i64.signed = true := rfl
  obtain ⟨u, hu⟩ : ∃ u, IntKind.u64.wrap a = u := ⟨_, rfl⟩
  have hu0 : 0 ≤ u ∧ u ≤ 18446744073709551615 := by
    rw [← hu, CodeE.wrapU]
    omega
  obtain ⟨b1, b2⟩ := hu0
  have c1 : 0 ≤ u % n := Int.emod_nonneg _ (by omega)
  have c2 : u % n < n := Int.emod_lt_of_pos _ (by omega)
  have C := Lib.hid (And.intro c1 c2)
  by_cases h0 : 0 ≤ a
  · have e : IntKind.u64.wrap a = a := by
      unfold InI at ha
      rw [CodeE.wrapU]
      omega
    rw [e] at hu
    subst hu
    rw [e]
    unfold InI at ha
    obtain ⟨a1, a2⟩ := ha
    have he := Lib.hid e
    clear e
    go_enter Try.func16, Try.ntmps16
    go_wp2
    go_ret
    exact ⟨rfl, rfl⟩
  · have h1 : a < 0 := by omega
    rw [hu]
    go_enter Try.func16, Try.ntmps16
    go_wp2
    go_ret
    exact ⟨rfl, rfl⟩
set_option maxHeartbeats 8000000 in
set_option maxRecDepth 100000 in
theorem canon_big (w : World) (A0 : Option Addr) (n0 c0 : Nat) (l0 : n0 ≤ c0) (m0 : c0 ≤ maxLen) (sc : Scr) (v0 : Value) (hsc : Holds w w.heap.size sc v0) (a2 a3 : Int) (hbig : ¬ (n0 ≤ 400 ∧ sc.init.length ≤ 20 ∧ sc.progs.length ≤ 5 ∧ sc.picks.length ≤ 20)) :
    Calls Try.prog 7 #[.slice A0 n0 c0, v0, .int .i64 a2, .int .i64 a3] w fun e w' => e = .returned (.bool true) ∧ Kept w w' := by
  obtain ⟨x0, x1, x2, x3, x4, x5, x6, x7, x8, x9, x10, x11, Ai, ni, ci, Ap, np, cp, Ak, nk, ck, e1, rfl, hx, ⟨i1, i2, i3⟩, ⟨p1, p2, p3⟩, ⟨k1, k2, k3⟩⟩ := id hsc
  have hok := Holds.ok hsc
  have li := i3.1
  have lp := p3.1
  have lk := k3.1
  unfold maxLen at i2 p2 k2
  obtain ⟨w1, hw1⟩ : ∃ w1, w1 = w.alloc (.cells #[.int .i64 x0, .int .i64 x1, .int .i64 x2, .int .i64 x3, .int .i64 x4, .int .i64 x5, .int .i64 x6, .int .i64 x7, .int .i64 x8, .int .i64 x9, .int .i64 x10, .int .i64 x11, .bool sc.strong, .slice Ai ni ci, .slice Ap np cp, .slice Ak nk ck] 29) := ⟨_, rfl⟩
  have hb1 : Below w.heap.size w w1 := hw1 ▸ below_new w _
  have hm1 : Mem w1 w.heap.size 29 #[.int .i64 x0, .int .i64 x1, .int .i64 x2, .int .i64 x3, .int .i64 x4, .int .i64 x5, .int .i64 x6, .int .i64 x7, .int .i64 x8, .int .i64 x9, .int .i64 x10, .int .i64 x11, .bool sc.strong, .slice Ai ni ci, .slice Ap np cp, .slice Ak nk ck] := hw1 ▸ Mem.new w _ _
  have hh1 := Holds.upto hsc (Old.of_below hb1)
  have HW := Lib.hid hw1
  have HM := Lib.hid hm1
  have HH := Lib.hid hh1
  have HB := Lib.hid hb1
  have HOK := Lib.hid hok
  have HI := Lib.hid li
  have HP := Lib.hid lp
  have HK := Lib.hid lk
  have f0 := hm1.cell 0
  have f1 := hm1.cell 1
  have f2 := hm1.cell 2
  have f3 := hm1.cell 3
  have f4 := hm1.cell 4
  have f5 := hm1.cell 5
  have f6 := hm1.cell 6
  have f7 := hm1.cell 7
  have f8 := hm1.cell 8
  have f9 := hm1.cell 9
  have f10 := hm1.cell 10
  have f11 := hm1.cell 11
  have f12 := hm1.cell 12
  have f13 := hm1.cell 13
  have f14 := hm1.cell 14
  have f15 := hm1.cell 15
  simp at f0 f1 f2 f3 f4 f5 f6 f7 f8 f9 f10 f11 f12 f13 f14 f15
  have hgl := hm1.lt
  clear hb1 hm1 hh1 hw1 hok li lp lk i3 p3 k3 hx e1 hsc
  have hsm : ¬ (n0 ≤ 400 ∧ ni ≤ 20 ∧ np ≤ 5 ∧ nk ≤ 20) := by have := HI.out; have := HP.out; have := HK.out; omega
  clear hbig
  unfold maxLen at m0
  have hc : 400 < n0 ∨ n0 ≤ 400 ∧ 20 < ni ∨ n0 ≤ 400 ∧ ni ≤ 20 ∧ 5 < np ∨ n0 ≤ 400 ∧ ni ≤ 20 ∧ np ≤ 5 ∧ 20 < nk := by omega
  clear hsm
  rcases hc with c1 | ⟨c1, c2⟩ | ⟨c1, c2, c3⟩ | ⟨c1, c2, c3, c4⟩
  all_goals
    go_enter Try.func7, Try.ntmps7
    go_upto_region 1 with (fail)
    rw [← HW.out]
    clear HW
    go_wp2_with (go_at_call 9; refine (a_awake _).mono ?_; rintro e w2 ⟨rfl, hb2⟩)
    go_ret
    exact ⟨rfl, Kept.of_below (kept_trans HB.out hb2)⟩
set_option maxHeartbeats 8000000 in
set_option maxRecDepth 100000 in
theorem canon_small (w : World) (A0 : Option Addr) (n0 c0 : Nat) (z0 : List Int) (l0 : n0 ≤ c0) (m0 : c0 ≤ maxLen) (s0 : Ints .u8 w A0 n0 z0) (sc : Scr) (v0 : Value) (hsc : Holds w w.heap.size sc v0) (a2 a3 : Int) (i2a : InI a2) (i3a : InI a3) (q0 : n0 ≤ 400) (q1 : sc.init.length ≤ 20) (q2 : sc.progs.length ≤ 5) (q3 : sc.picks.length ≤ 20) :
    Calls Try.prog 7 #[.slice A0 n0 c0, v0, .int .i64 a2, .int .i64 a3] w fun e w' => e = .returned (.bool true) ∧ Kept w w' := by
  obtain ⟨x0, x1, x2, x3, x4, x5, x6, x7, x8, x9, x10, x11, Ai, ni, ci, Ap, np, cp, Ak, nk, ck, e1, rfl, hx, ⟨i1, i2, i3⟩, ⟨p1, p2, p3⟩, ⟨k1, k2, k3⟩⟩ := id hsc
  have hok := Holds.ok hsc
  have li := i3.1
  have lp := p3.1
  have lk := k3.1
  unfold maxLen at i2 p2 k2
  obtain ⟨w1, hw1⟩ : ∃ w1, w1 = w.alloc (.cells #[.int .i64 x0, .int .i64 x1, .int .i64 x2, .int .i64 x3, .int .i64 x4, .int .i64 x5, .int .i64 x6, .int .i64 x7, .int .i64 x8, .int .i64 x9, .int .i64 x10, .int .i64 x11, .bool sc.strong, .slice Ai ni ci, .slice Ap np cp, .slice Ak nk ck] 29) := ⟨_, rfl⟩
  have hb1 : Below w.heap.size w w1 := hw1 ▸ below_new w _
  have hm1 : Mem w1 w.heap.size 29 #[.int .i64 x0, .int .i64 x1, .int .i64 x2, .int .i64 x3, .int .i64 x4, .int .i64 x5, .int .i64 x6, .int .i64 x7, .int .i64 x8, .int .i64 x9, .int .i64 x10, .int .i64 x11, .bool sc.strong, .slice Ai ni ci, .slice Ap np cp, .slice Ak nk ck] := hw1 ▸ Mem.new w _ _
  have hh1 := Holds.upto hsc (Old.of_below hb1)
  have HW := Lib.hid hw1
  have HM := Lib.hid hm1
  have HH := Lib.hid hh1
  have HB := Lib.hid hb1
  have HOK := Lib.hid hok
  have HI := Lib.hid li
  have HP := Lib.hid lp
  have HK := Lib.hid lk
  have f0 := hm1.cell 0
  have f1 := hm1.cell 1
  have f2 := hm1.cell 2
  have f3 := hm1.cell 3
  have f4 := hm1.cell 4
  have f5 := hm1.cell 5
  have f6 := hm1.cell 6
  have f7 := hm1.cell 7
  have f8 := hm1.cell 8
  have f9 := hm1.cell 9
  have f10 := hm1.cell 10
  have f11 := hm1.cell 11
  have f12 := hm1.cell 12
  have f13 := hm1.cell 13
  have f14 := hm1.cell 14
  have f15 := hm1.cell 15
  simp at f0 f1 f2 f3 f4 f5 f6 f7 f8 f9 f10 f11 f12 f13 f14 f15
  have hgl := hm1.lt
  have hs1 := CodeQ.upto s0 hb1
  have HS := Lib.hid hs1
  have H2a := Lib.hid i2a
  have H3a := Lib.hid i3a
  have HM0 := Lib.hid m0
  clear hb1 hm1 hh1 hw1 hok li lp lk i3 p3 k3 hx e1 hsc s0 hs1 i2a i3a
  have c1 : ni ≤ 20 := by have := HI.out; omega
  have c2 : np ≤ 5 := by have := HP.out; omega
  have c3 : nk ≤ 20 := by have := HK.out; omega
  clear q1 q2 q3
  unfold maxLen at m0
  go_enter Try.func7, Try.ntmps7
  go_upto_region 1 with (fail)
  rw [← HW.out]
  clear HW
  go_upto_region 3 with (fail)
  obtain ⟨A1, n1, c1', w2, hrun, hi2, hn1, hc1, hb2⟩ := app4 w1 A0 n0 c0 z0 HS.out (by omega)
  have HR := Lib.hid hrun
  clear hrun
  have kc := Lib.run_convert_bytes_const (P := Try.prog) w1 31 5 #[.int .u8 83, .int .u8 84, .int .u8 88, .int .u8 49] 4 4 Try.underlying31 Try.underlying5
  go_upto_region 4 with (at_builtin; refine wpList_append_run rfl _ _ _ rfl HR.out (by rfl) (by rfl) ?_)
  obtain ⟨w3, hw3⟩ : ∃ w3, w3 = w2.alloc (.cells #[.slice A0 n0 c0, .slice A1 n1 c1'] 31) := ⟨_, rfl⟩
  rw [← hw3]
  have hb3 : Below w2.heap.size w2 w3 := hw3 ▸ below_new w2 _
  have hs3 : w3.heap.size = w2.heap.size + 1 := by rw [hw3]; exact size_new _ _
  have hm3 : Mem w3 w2.heap.size 31 #[.slice A0 n0 c0, .slice A1 n1 c1'] := hw3 ▸ Mem.new w2 _ _
  have HM3 := Lib.hid ((HM.out.below hb2 HM.out.lt).below hb3 (by have := HM.out.lt; have := hb2.size; omega))
  have HH3 := Lib.hid (Holds.upto (Holds.upto HH.out (Old.of_below hb2)) (Old.of_below hb3))
  have HB3 := Lib.hid (kept_trans (kept_trans HB.out hb2) hb3)
  have hbl3 : BL w3 w2.heap.size 2 := by
    refine ⟨by omega, fun i hi => ?_⟩
    match i, hi with
    | 0, _ => exact ⟨A0, n0, c0, z0, hm3.cell 0, l0, HM0.out, CodeQ.upto (CodeQ.upto HS.out hb2) hb3⟩
    | 1, _ => exact ⟨A1, n1, c1', _, hm3.cell 1, hn1, hc1, CodeQ.upto hi2 hb3⟩
  have hg3 : w2.heap.size < w3.heap.size := by omega
  have HBL := Lib.hid hbl3
  have HW3 := Lib.hid hw3
  have fl3 := HM3.out.cell
  have g0 := fl3 0
  have g1 := fl3 1
  have g2 := fl3 2
  have g3 := fl3 3
  have g4 := fl3 4
  have g5 := fl3 5
  have g6 := fl3 6
  have g7 := fl3 7
  have g8 := fl3 8
  have g9 := fl3 9
  have g10 := fl3 10
  have g11 := fl3 11
  have g12 := fl3 12
  have g13 := fl3 13
  have g14 := fl3 14
  have g15 := fl3 15
  simp at g0 g1 g2 g3 g4 g5 g6 g7 g8 g9 g10 g11 g12 g13 g14 g15
  clear hw3 hb3 hs3 hm3 hbl3 fl3 HM HH HB HR HS hi2 hb2 kc HW3 f0 f1 f2 f3 f4 f5 f6 f7 f8 f9 f10 f11 f12 f13 f14 f15
  obtain ⟨l, hl⟩ : ∃ l, bytesOf sc = l := ⟨_, rfl⟩
  have HBY := Lib.hid (show ∀ b ∈ l, InB b from hl ▸ bytes_byte _ HOK.out)
  have HL := Lib.hid hl
  clear hl
  go_wp2_with fail
  refine (enc_holds HH3.out l HL.out).mono ?_
  rintro e w4 h4
  obtain ⟨hb4, A4, n4, c4, rfl, hi4, hn4, hc4, hown⟩ := enc_row h4 HBY.out (HL.out ▸ bytes_five sc)
  obtain ⟨E, hE⟩ : ∃ E, errL l = E := ⟨_, rfl⟩
  rw [hE] at hown ⊢
  have HOW := Lib.hid hown
  have HB34 := Lib.hid hb4
  have hbl4 := HBL.out.upto hb4
  have HB4 := Lib.hid (kept_trans HB3.out hb4)
  have hg4 : w2.heap.size < w4.heap.size := hbl4.1
  have HBL4 := Lib.hid hbl4
  have HI4 := Lib.hid hi4
  have HN4 := Lib.hid hn4
  have HC4 := Lib.hid hc4
  clear hown h4 hb4 hbl4 hi4 hn4 hc4 hE HH3 HM3 HL HBY hg3 g0 g1 g2 g3 g4 g5 g6 g7 g8 g9 g10 g11 g12 g13 g14 g15
  have hn4 : n4 ≤ 9223372036854775807 := by have := HN4.out; have := HC4.out; unfold maxLen at this; omega
  go_upto_region 5 with fail
  go_cut [56] (fun b wc => b = .bool (decide (E = 0 ∧ 0 < n4)) ∧ wc = w4)
  case first =>
    by_cases h1 : E = 0
    · by_cases h2 : 0 < n4
      · subst h1
        go_wp2_with fail
        all_goals go_meet
        all_goals exact ⟨by simp [h2], rfl⟩
      · go_wp2_with fail
        all_goals go_meet
        all_goals exact ⟨by simp [h2], rfl⟩
    · go_wp2_with fail
      all_goals go_meet
      all_goals exact ⟨by simp [h1], rfl⟩
  case rest =>
  obtain ⟨rfl, hwc⟩ := hcut
  subst hwc
  obtain ⟨bb, hbb⟩ : ∃ bb, decide (E = 0 ∧ 0 < n4) = bb := ⟨_, rfl⟩
  rw [hbb]
  have HDC := Lib.hid hbb
  clear hbb
  go_upto_if 56 with fail
  go_cut [9] (fun l9 wc => ∃ g N c, l9 = .slice (some ⟨g, 0, none⟩) N c ∧ N ≤ 3 ∧ BL wc g N ∧ Below w.heap.size w wc)
  case first =>
    cases bb with
    | true =>
      have hcc : E = 0 ∧ 0 < n4 := of_decide_eq_true HDC.out
      obtain ⟨r, hr⟩ : ∃ r : Nat, (r : Int) = IntKind.u64.wrap a2 % n4 := ⟨(IntKind.u64.wrap a2 % n4).toNat, by have := Int.emod_nonneg (IntKind.u64.wrap a2) (b := (n4 : Int)) (by omega); omega⟩
      obtain ⟨t, ht⟩ : ∃ t : Nat, (t : Int) = IntKind.u64.wrap a3 % 8 := ⟨(IntKind.u64.wrap a3 % 8).toNat, by omega⟩
      have hrn : r < n4 := by have := Int.emod_lt_of_pos (IntKind.u64.wrap a2) (b := (n4 : Int)) (by omega); omega
      have ht8 : t < 8 := by omega
      obtain ⟨g4, cur, rfl, hg4', hm4⟩ := HOW.out hcc.1
      obtain ⟨b, off, x, e4, hbb, hcell, hxz, hxw⟩ := CodeW.Ints.at HI4.out hrn
      injection e4 with e4
      injection e4 with e4a e4b
      subst e4a e4b
      rw [Nat.zero_add] at hcell
      have HR := Lib.hid hr
      have HT := Lib.hid ht
      have hrr : IntKind.u64.wrap a2 % n4 = (r : Int) := hr.symm
      have htt : IntKind.u64.wrap a3 % 8 = (t : Int) := ht.symm
      have hfz := hm4.frozen r
      have HM4 := Lib.hid hm4
      have HG4 := Lib.hid hg4'
      clear hr ht hm4 hg4'
      have s1 : wc.cell? ⟨g4, r, none⟩ = some (.int .u8 x) := hcell
      have HBB2 := Lib.hid hbb
      have hn0 := hcc.2
      clear hcc
      go_upto_region 6 with fail
      go_region_law (first
        | (go_simp; go_at_call 16; (with_reducible refine (a_place_v a2 n4 (by omega) (by omega) H2a.out _).mono ?_); rintro e wz ⟨he, rfl⟩; rw [hrr] at he; subst he)
        | (go_simp; go_at_call 16; (with_reducible refine (a_place_v a3 8 (by omega) (by omega) H3a.out _).mono ?_); rintro e wz ⟨he, rfl⟩; rw [htt] at he; subst he))
      all_goals
        obtain ⟨X, hX⟩ : ∃ X, bits BinOp.xor IntKind.u8 x (IntKind.u8.wrap (2 ^ t)) = X := ⟨_, rfl⟩
        have hXw : (Lit.int .u8 X).wf = true := hX ▸ bits_wf _ _
        rw [hX]
        have hi5 := ints_set (X := X) HI4.out HM4.out hrn hXw
        have hb5 : Below w3.heap.size w3 (wc.setCell ⟨g4, r, none⟩ (.int .u8 X)) := HB34.out.setCell HG4.out _
        have hb5' : Below w3.heap.size w3 (wc.setCell ⟨g4, r, none⟩ (.int .u8 X)).drew := below_drewN hb5 1
        have hi5' : Ints .u8 (wc.setCell ⟨g4, r, none⟩ (.int .u8 X)).drew (some ⟨g4, 0, none⟩) n4 ((bytL l).set r X) := CodeP.Ints.drewN hi5 1
        obtain ⟨w5, hw5⟩ : ∃ w5, w5 = (wc.setCell ⟨g4, r, none⟩ (.int .u8 X)).drew := ⟨_, rfl⟩
        rw [← hw5] at hb5' hi5' ⊢
        have hbl5 := HBL.out.upto hb5'
        obtain ⟨Aa, na, ca, za, ea, la, ma, ia⟩ := hbl5.2 0 (by omega)
        obtain ⟨Ab, nb, cb, zb, eb, lb, mb, ib⟩ := hbl5.2 1 (by omega)
        obtain ⟨c6, w6, hrun, d0, d1, d2, hsz, hc6, hb6⟩ := app_row w5 w2.heap.size _ _ (.slice (some ⟨g4, 0, none⟩) n4 c4) ea eb hbl5.1
        have HR6 := Lib.hid hrun
        have hbl6 : BL w6 (w5.heap.size + 1) 3 := by
          refine ⟨hsz, fun i hi => ?_⟩
          match i, hi with
          | 0, _ => exact ⟨Aa, na, ca, za, d0, la, ma, CodeQ.upto ia hb6⟩
          | 1, _ => exact ⟨Ab, nb, cb, zb, d1, lb, mb, CodeQ.upto ib hb6⟩
          | 2, _ => exact ⟨some ⟨g4, 0, none⟩, n4, c4, _, d2, HN4.out, HC4.out, CodeQ.upto hi5' hb6⟩
        have HBL6 := Lib.hid hbl6
        have HB6 := Lib.hid (kept_trans (kept_trans HB3.out hb5') hb6)
        clear hX hXw hi5 hb5 hb5' hi5' hw5 hbl5 ea la ma ia eb lb mb ib hrun d0 d1 d2 hsz hb6 hbl6 s1 hcell hfz
        go_wp2_with (at_builtin; refine wpList_append_run rfl _ _ _ rfl HR6.out (by rfl) (by rfl) ?_)
        all_goals go_meet
        exact ⟨_, _, _, rfl, by omega, HBL6.out, HB6.out⟩
    | false =>
      go_wp2_with fail
      all_goals go_meet
      exact ⟨_, _, _, rfl, by omega, HBL4.out, HB4.out⟩
  case rest =>
  obtain ⟨g, N, c, rfl, hN, hbl, hbw⟩ := hcut
  have HBL7 := Lib.hid hbl
  have HBW := Lib.hid hbw
  have hgc : g < wc.heap.size := hbl.1
  clear hbl hbw HBL HBL4 HB4 HI4 HN4 HC4 HOW HB34 HB3
  go_wp2_with fail
  go_loopw [12] (fun i wr => ∃ k : Nat, k ≤ N ∧ i = .int .i64 k ∧ Below wc.heap.size wc wr) (fun i _ => N - (intOf i).toNat)
  case atStart => exact ⟨0, Nat.zero_le _, rfl, Below.refl _ _⟩
  case round =>
    obtain ⟨k, hk, rfl, hbr⟩ := hrel
    have HBR := Lib.hid hbr
    have hgr : g < wr.heap.size := Nat.lt_of_lt_of_le hgc hbr.size
    have hblr := HBL7.out.upto hbr
    clear hbr
    rcases Nat.lt_or_ge k N with hkN | hkN
    · obtain ⟨Ai, ni, ci, zi, hcell, hni, hci, hzi⟩ := hblr.2 k hkN
      have HZ := Lib.hid hzi
      have HLN := Lib.hid hni
      have HLC := Lib.hid hci
      have hin := Lib.hid (inb hzi)
      clear hblr hzi hni hci
      go_wp2_with fail
      refine (a_decode _ _ _ zi _ HLN.out HLC.out HZ.out).mono ?_
      rintro e w7 hd
      rcases Nat.lt_or_ge 262144 zi.length with hlong | hshort
      · obtain ⟨hb7, h7 | ⟨h7, _⟩⟩ := hd
        · obtain ⟨_, rfl⟩ := h7
          have HB7 := Lib.hid (HBR.out.trans ((kept_trans hb7 (below_new w7 (.cells #[.int .i64 0, .int .i64 0, .int .i64 0, .int .i64 0, .int .i64 0, .int .i64 0, .int .i64 0, .int .i64 0, .int .i64 0, .int .i64 0, .int .i64 0, .int .i64 0, .bool false, .slice none 0 0, .slice none 0 0, .slice none 0 0] 29))).mono HBR.out.size))
          unfold zeroV
          clear hb7 hlong
          go_wp2_with fail
          go_roundw
          case rel => exact ⟨k + 1, by omega, by go_num, HB7.out⟩
          case measure => simp [intOf]; omega
        · omega
      · cases hdp : decP zi with
        | none =>
          obtain ⟨hb7, ⟨h7, _⟩ | ⟨_, ⟨_, rfl⟩ | ⟨s, v, h7, _⟩⟩⟩ := hd
          · omega
          · have HB7 := Lib.hid (HBR.out.trans ((kept_trans hb7 (below_new w7 (.cells #[.int .i64 0, .int .i64 0, .int .i64 0, .int .i64 0, .int .i64 0, .int .i64 0, .int .i64 0, .int .i64 0, .int .i64 0, .int .i64 0, .int .i64 0, .int .i64 0, .bool false, .slice none 0 0, .slice none 0 0, .slice none 0 0] 29))).mono HBR.out.size))
            unfold zeroV
            clear hb7 hshort hdp
            go_wp2_with fail
            go_roundw
            case rel => exact ⟨k + 1, by omega, by go_num, HB7.out⟩
            case measure => simp [intOf]; omega
          · rw [hdp] at h7; cases h7
        | some s =>
          obtain ⟨hb7, v, rfl, hh7⟩ := dec_yes hd hshort hin.out hdp
          have HX := Lib.hid hh7
          obtain ⟨y0, y1, y2, y3, y4, y5, y6, y7, y8, y9, y10, y11, b, Bi, mi, di, Bp, mp, dp, Bk, mk, dk, rfl⟩ := Holds.agg hh7
          obtain ⟨w8, hw8⟩ : ∃ w8, w8 = w7.alloc (.cells #[.int .i64 y0, .int .i64 y1, .int .i64 y2, .int .i64 y3, .int .i64 y4, .int .i64 y5, .int .i64 y6, .int .i64 y7, .int .i64 y8, .int .i64 y9, .int .i64 y10, .int .i64 y11, .bool b, .slice Bi mi di, .slice Bp mp dp, .slice Bk mk dk] 29) := ⟨_, rfl⟩
          have hb8 : Below w7.heap.size w7 w8 := hw8 ▸ below_new w7 _
          have X8 := Lib.hid (Holds.upto HX.out (Old.of_below hb8))
          have HB8 := Lib.hid (kept_trans hb7 hb8)
          have HW8 := Lib.hid hw8
          have HD := Lib.hid hdp
          have HSH := Lib.hid hshort
          clear hd hh7 HX hb7 hb8 hw8 hdp hshort
          go_wp2_with fail
          rw [← HW8.out]
          refine (enc_holds X8.out zi (dec_of hin.out HD.out).1.symm).mono ?_
          rintro e w9 ⟨hb9, h9⟩
          obtain ⟨A9, c9, rfl, hrw9⟩ : ∃ A c, e = .returned (.tuple #[.slice A zi.length c, .int .i64 0]) ∧ Rw w8.heap.size w9 (.slice A zi.length c) zi := by
            rcases h9 with ⟨h9, _⟩ | ⟨_, h9⟩
            · have := HSH.out; omega
            · exact h9
          have hb29 := kept_trans HB8.out hb9
          have HB9 := Lib.hid (HBR.out.trans (hb29.mono HBR.out.size))
          have HI9 := Lib.hid (show Ints .u8 w9 A9 ni zi by rw [← HZ.out.1]; exact (hrw9.ints hin.out).2)
          have HZ9 := Lib.hid (CodeQ.upto HZ.out hb29)
          have hcell9 : w9.cell? ⟨g, k, none⟩ = some (.slice Ai ni ci) := by rw [World.cell?_of_block (w := wr) (hb29.block g hgr)]; exact hcell
          have hle := HZ.out.1
          clear h9 hrw9 hb9 hb29 hcell
          go_wp2_with fail
          refine (a_same _ _ _ _ _ zi _ HI9.out HZ9.out).mono ?_
          rintro e w10 ⟨rfl, rfl⟩
          go_wp2_with fail
          go_roundw
          case rel => exact ⟨k + 1, by omega, by go_num, HB9.out⟩
          case measure => simp [intOf]; omega
    · clear hblr
      go_wp2_with fail
      refine (a_awake _).mono ?_
      rintro e w8 ⟨rfl, hb8⟩
      go_wp2
      go_ret
      exact ⟨rfl, Kept.of_below (HBW.out.trans ((HBR.out.trans (hb8.mono HBR.out.size)).mono HBW.out.size))⟩
end Go.Proofs.Ytafidppjabdecaa.CodeCa
