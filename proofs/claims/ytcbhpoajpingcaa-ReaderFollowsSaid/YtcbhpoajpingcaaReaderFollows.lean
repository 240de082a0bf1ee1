/-
  Proved: a read makes the operations of the document, step by step, with any snapshot, while its orec and its word are changed between the steps. No condition.
-/
import Derived.Test.YtcbhpoajpingcaaRows
import Derived.WalkKit
import Derived.ProofKit
import Derived.OpenShut
import Derived.Test.YtcbhpoajpingcaaFrame
import Derived.Test.YtcbhpoajpingcaaRdL
import Derived.Test.YtcbhpoajpingcaaLayO
import Derived.Deep.RegionLaw
import Derived.Deep.RegionHeld3
import Derived.Test.YtcbhpoajpingcaaRdO
import Derived.Deep.Cut
import Derived.Deep.DeepCutAuto
import Derived.Deep.CutBlock
namespace Go.Proofs.Ytcbhpoajpingcaa.readerFollows
open Go.ChangeShapes Go.WideShapes Go.ChangeAt Go.RowKit
open LawFrame
open Go.ChangeMaps (open_string)
set_option linter.unusedVariables false

theorem own : ownKnob Try.prog.godebug = none := by kernel_rfl
theorem laidOut : laidOutB Try.prog = true := by kernel_rfl

open RdO PlainT BlkW LayS LayA LayH LayK LayO LayP CelS CelM CelP CelV CelN CelO CelI CelF CelB LabD LabR LabP LabS LabX WordC RdA RdB RdC RdL
set_option maxHeartbeats 20000000
set_option maxRecDepth 100000
/-- What the cells hold of the machine's orec and word. -/
def Fn (o a : Nat) (A : Int → List Int) : Prop := o < (A 2).length ∧ a < (A 1).length ∧ 0 ≤ (A 2).getD o 0 ∧ (A 2).getD o 0 ≤ 1000
theorem fn_orec {o a : Nat} {A : Int → List Int} {x : Int} (h : Fn o a A) (x0 : 0 ≤ x) (x1 : x ≤ 1000) : Fn o a (upd A 2 o x) :=
  ⟨by rw [upd_len]; exact h.1, by rw [upd_len]; exact h.2.1, by rw [upd_at h.1]; exact x0, by rw [upd_at h.1]; exact x1⟩
theorem fn_data {o a : Nat} {A : Int → List Int} {y : Int} (h : Fn o a A) : Fn o a (upd A 1 a y) :=
  ⟨by rw [upd_len]; exact h.1, by rw [upd_len]; exact h.2.1, by rw [upd_off (by decide)]; exact h.2.2.1, by rw [upd_off (by decide)]; exact h.2.2.2⟩
theorem lb_rows {w0 w : World} {lo hi b rb : Nat} {q : Cfg} {A B : Int → List Int} {ex : List Bx} (h : Lb w0 lo hi b rb q A B ex w) : ∃ Ad cd Ao co, w.cell? ⟨rb, 13, none⟩ = some (.slice Ad (B 1).length cd) ∧ w.cell? ⟨rb, 14, none⟩ = some (.slice Ao (B 2).length co) := by
  obtain ⟨m1, m2, h1, ⟨V, X, c, t, s, h2⟩, hm, ho⟩ := h.duo
  obtain ⟨Ad, cd, e0, _⟩ := own_slice (h2.r.own 0 (by decide))
  obtain ⟨Ao, co, e1, _⟩ := own_slice (h2.r.own 1 (by decide))
  have c0 := h2.r.bx.cell 13
  have c1 := h2.r.bx.cell 14
  refine ⟨Ad, cd, Ao, co, ?_, ?_⟩
  · rw [c0, h2.a1]
    show some (V 0) = _
    rw [e0]
  · rw [c1, h2.a2]
    show some (V 1) = _
    rw [e1]

theorem readable : ∀ t ∈ Try.f8.params.toList, Try.prog.readableRec t = true ∧ t < Try.prog.types.size := by
  have h : (Try.f8.params.toList.all fun t => Try.prog.readableRec t && decide (t < Try.prog.types.size)) = true := by kernel_rfl
  intro t ht
  have := List.all_eq_true.1 h t ht
  simpa using this

/-! The walk. -/
theorem walk (w : World) (x0_0 x0_1 x0_2 x0_3 x0_4 : Int) (wx0_0 : LayS.InI x0_0) (wx0_1 : LayS.InI x0_1) (wx0_2 : LayS.InI x0_2) (wx0_3 : LayS.InI x0_3) (wx0_4 : LayS.InI x0_4) (a1 : Int) (w1 : (Lit.int .i64 a1).wf = true) (a2 : Int) (w2 : (Lit.int .i64 a2).wf = true) (a3 : Int) (w3 : (Lit.int .i64 a3).wf = true) (A4 : Option Addr) (n4 c4 : Nat) (l4 : n4 ≤ c4) (m4 : c4 ≤ maxLen) (s4 : RdO.RowC w A4 n4) :
    Calls Try.prog 8 #[.agg #[.int .i64 x0_0, .int .i64 x0_1, .int .i64 x0_2, .int .i64 x0_3, .int .i64 x0_4], .int .i64 a1, .int .i64 a2, .int .i64 a3, .slice A4 n4 c4] w fun e w' => e = .returned (.bool true) ∧ Kept w w' := by
  show Calls _ _ #[.agg _, _, _, _, _] _ _
  clear wx0_0 wx0_1 wx0_2 wx0_3 wx0_4
  have HB0 := Lib.hid (below_new w (.cells #[.int .i64 x0_0, .int .i64 x0_1, .int .i64 x0_2, .int .i64 x0_3, .int .i64 x0_4] 22))
  have HZ4 := Lib.hid s4
  clear w1 w2 w3 s4
  go_enter Try.func8, Try.ntmps8
  go_upto_region 2 with (go_at_call 20; refine (l_small _ _ _ _ _ _).mono ?_; rintro e w1 ⟨q, A, lo, hi, b, rb, rfl, hst⟩)
  obtain ⟨w0, hw0⟩ : ∃ w0, w.alloc (.cells #[.int .i64 x0_0, .int .i64 x0_1, .int .i64 x0_2, .int .i64 x0_3, .int .i64 x0_4] 22) = w0 := ⟨_, rfl⟩
  rw [hw0] at HB0 hst
  clear hw0
  have L0 := Lib.hid (Lb.begun hst)
  obtain ⟨hmd, l1, l1', l2, z2⟩ := begun_len hst
  have hq : 4 ≤ q.w ∧ q.w ≤ 12 ∧ 1 ≤ q.o ∧ q.o ≤ 8 := by unfold Made at hmd; omega
  obtain ⟨qw0, qw1, qo0, qo1⟩ := hq
  have Z2 := Lib.hid z2
  have HL := Lib.hid (And.intro l1 (And.intro l1' l2))
  clear hst hmd z2 l1 l1' l2
  have L1 := Lib.hid (L0.out.new TP #[.pointer (some ⟨b, 0, none⟩), .pointer (some ⟨rb, 0, none⟩)])
  simp only [List.nil_append] at L1
  have Z_gp : Hid ((w1.alloc (.cells #[.pointer (some ⟨b, 0, none⟩), .pointer (some ⟨rb, 0, none⟩)] TP)).heap.size = w1.heap.size + 1) := Lib.hid (size_new _ _)
  obtain ⟨gp, hn⟩ : ∃ gp, w1.heap.size = gp := ⟨_, rfl⟩
  rw [hn] at L1 Z_gp
  first | rw [hn] | skip
  clear hn
  obtain ⟨W1, hW⟩ : ∃ W', w1.alloc (.cells #[.pointer (some ⟨b, 0, none⟩), .pointer (some ⟨rb, 0, none⟩)] TP) = W' := ⟨_, rfl⟩
  rw [hW] at L1 Z_gp
  first | rw [hW] | skip
  clear hW
  clear L0
  clear Z_gp
  have c1_gp_0 : W1.cell? ⟨gp, 0, none⟩ = some (.pointer (some ⟨b, 0, none⟩)) := L1.out.c 0 0 rfl rfl
  have c1_gp_1 : W1.cell? ⟨gp, 1, none⟩ = some (.pointer (some ⟨rb, 0, none⟩)) := L1.out.c 0 1 rfl rfl
  obtain ⟨Ad, cd, Ao, co, hd1, hd2⟩ := lb_rows L1.out
  have hm1 : 0 < ((A 1).length : Int) ∧ ((A 1).length : Int) ≤ 1000 := by have := HL.out; omega
  have hm2 : 0 < ((A 2).length : Int) ∧ ((A 2).length : Int) ≤ 1000 := by have := HL.out; omega
  go_upto_region 4 with (fail)
  have hs0 : (fun W : World => W.cell? ⟨gp, 0, none⟩ = some (.pointer (some ⟨b, 0, none⟩)) ∧ W.cell? ⟨gp, 1, none⟩ = some (.pointer (some ⟨rb, 0, none⟩)) ∧ W.cell? ⟨rb, 13, none⟩ = some (.slice Ad (A 1).length cd) ∧ W.cell? ⟨rb, 14, none⟩ = some (.slice Ao (A 2).length co)) W1.drew := ⟨L1.out.drew.c 0 0 rfl rfl, L1.out.drew.c 0 1 rfl rfl, hd1, hd2⟩
  go_region_held3 (fun W : World => W.cell? ⟨gp, 0, none⟩ = some (.pointer (some ⟨b, 0, none⟩)) ∧ W.cell? ⟨gp, 1, none⟩ = some (.pointer (some ⟨rb, 0, none⟩)) ∧ W.cell? ⟨rb, 13, none⟩ = some (.slice Ad (A 1).length cd) ∧ W.cell? ⟨rb, 14, none⟩ = some (.slice Ao (A 2).length co)) (first | (with_reducible exact hs0) | (with_reducible assumption)) (first
    | (go_at_call 14; (with_reducible refine (k_place_ex a1 _ hm1.1 hm1.2 _).mono ?_); rintro e w5 ⟨v1, p0, p1, rfl, rfl⟩)
    | (go_at_call 14; (with_reducible refine (k_place_ex a2 _ hm2.1 hm2.2 _).mono ?_); rintro e w6 ⟨v2, o0, o1, rfl, rfl⟩)
    | (go_at_call 14; (with_reducible refine (k_place_ex a3 _ (by omega) (by omega) _).mono ?_); rintro e w7 ⟨r, r0, r1, rfl, rfl⟩))
  clear hs0 hd1 hd2
  have L2 := Lib.hid L1.out.drew
  obtain ⟨W2, hW⟩ : ∃ W', W1.drew = W' := ⟨_, rfl⟩
  rw [hW] at L2
  first | rw [hW] | skip
  clear hW
  clear L1 c1_gp_0 c1_gp_1
  obtain ⟨a, ha⟩ : ∃ a : Nat, v1 = a := ⟨(v1).toNat, by omega⟩
  subst ha
  obtain ⟨o, ho⟩ : ∃ o : Nat, v2 = o := ⟨(v2).toNat, by omega⟩
  subst ho
  have HFn : Hid (Fn o a A) := Lib.hid ⟨by omega, by omega, by rw [Z2.out o]; decide, by rw [Z2.out o]; decide⟩
  clear hm1 hm2 HL Z2 p0 p1 o0 o1 qw0 qw1 qo0 qo1
  go_upto_region 6 with (first | (go_at_call 50; (with_reducible refine (rd_new _ _ _ _).mono ?_); rintro e w9 ⟨rfl, rfl⟩) | (go_at_call 51; (with_reducible refine (rr_new _ _ _ _).mono ?_); rintro e w9 ⟨rfl, rfl⟩))
  have L3 := Lib.hid (L2.out.new TRd #[.int .i64 0, .int .i64 a, .int .i64 o, .int .i64 r, .int .u64 0, .int .u64 0, .bool false])
  simp only [List.cons_append, List.nil_append] at L3
  have Z_gx : Hid ((W2.alloc (.cells #[.int .i64 0, .int .i64 a, .int .i64 o, .int .i64 r, .int .u64 0, .int .u64 0, .bool false] TRd)).heap.size = W2.heap.size + 1) := Lib.hid (size_new _ _)
  obtain ⟨gx, hn⟩ : ∃ gx, W2.heap.size = gx := ⟨_, rfl⟩
  rw [hn] at L3 Z_gx
  first | rw [hn] | skip
  clear hn
  obtain ⟨W3, hW⟩ : ∃ W', W2.alloc (.cells #[.int .i64 0, .int .i64 a, .int .i64 o, .int .i64 r, .int .u64 0, .int .u64 0, .bool false] TRd) = W' := ⟨_, rfl⟩
  rw [hW] at L3 Z_gx
  first | rw [hW] | skip
  clear hW
  clear L2
  have L3 : Hid (Lb w0 lo hi b rb q A A [(gp, TP, #[.pointer (some ⟨b, 0, none⟩), .pointer (some ⟨rb, 0, none⟩)]), (gx, TRd, pB a o r 0 0 0)] W3) := L3
  have L4 := Lib.hid (L3.out.new TQd #[.int .i64 a, .int .i64 o, .int .i64 r, .int .i64 0, .int .u64 0, .int .u64 0])
  simp only [List.cons_append, List.nil_append] at L4
  have Z_gy : Hid ((W3.alloc (.cells #[.int .i64 a, .int .i64 o, .int .i64 r, .int .i64 0, .int .u64 0, .int .u64 0] TQd)).heap.size = W3.heap.size + 1) := Lib.hid (size_new _ _)
  first | rw [← Z_gx.out] | skip
  obtain ⟨gy, hn⟩ : ∃ gy, W3.heap.size = gy := ⟨_, rfl⟩
  rw [hn] at L4 Z_gy
  first | rw [hn] | skip
  clear hn
  obtain ⟨W4, hW⟩ : ∃ W', W3.alloc (.cells #[.int .i64 a, .int .i64 o, .int .i64 r, .int .i64 0, .int .u64 0, .int .u64 0] TQd) = W' := ⟨_, rfl⟩
  rw [hW] at L4 Z_gy
  first | rw [hW] | skip
  clear hW
  clear L3 Z_gx
  have L4 : Hid (Lb w0 lo hi b rb q A A [(gp, TP, #[.pointer (some ⟨b, 0, none⟩), .pointer (some ⟨rb, 0, none⟩)]), (gx, TRd, pB a o r 0 0 0), (gy, TQd, rB a o r 0 0 0)] W4) := L4
  clear Z_gy
  go_wp2_with fail
  go_loopw [18] (fun iv wr => ∃ (i : Nat) (t bf vl : Int) (A1 : Int → List Int), i ≤ 5 ∧ iv = .int .i64 i ∧ (0 ≤ t ∧ t ≤ 4) ∧ Hid (Fn o a A1) ∧ Lb w0 lo hi b rb q A1 A1 [(gp, TP, #[.pointer (some ⟨b, 0, none⟩), .pointer (some ⟨rb, 0, none⟩)]), (gx, TRd, pB a o r t bf vl), (gy, TQd, rB a o r t bf vl)] wr) (fun iv _ => 5 - (intOf iv).toNat)
  case atStart => exact ⟨0, 0, 0, 0, A, by omega, rfl, by decide, HFn, L4.out⟩
  case round =>
    clear L4 HFn
    obtain ⟨i, t, bf, vl, A1, hi5, rfl, ht, HF, hL⟩ := hrel
    have L0 := Lib.hid hL
    clear hL
    by_cases hlt : i < 5
    · have hltI : (i : Int) < 5 := by omega
      go_upto_if 67 with (fail)
      go_cut [] (fun wc => ∃ A2, Hid (Fn o a A2) ∧ Hid (Lb w0 lo hi b rb q A2 A2 [(gp, TP, #[.pointer (some ⟨b, 0, none⟩), .pointer (some ⟨rb, 0, none⟩)]), (gx, TRd, pB a o r t bf vl), (gy, TQd, rB a o r t bf vl)] wc))
      case first =>
        obtain ⟨hA2, hA1, _, _⟩ := HF.out
        by_cases hn : i < n4
        · have hnI : (i : Int) < n4 := by omega
          obtain ⟨cb, coff, co, cv, hA4, hc0, hc1⟩ := HZ4.out.at_ (below_trans2 HB0.out L0.out.old) hn
          subst hA4
          have c0_gp_0 : wr.cell? ⟨gp, 0, none⟩ = some (.pointer (some ⟨b, 0, none⟩)) := L0.out.c 0 0 rfl rfl
          have c0_gp_1 : wr.cell? ⟨gp, 1, none⟩ = some (.pointer (some ⟨rb, 0, none⟩)) := L0.out.c 0 1 rfl rfl
          have hse1 : ∀ n z, Calls _ _ _ _ _ := fun n z => lb_set (L0.out.drewN n) 2 (by decide) o hA2 z
          have hse2 : ∀ n z, Calls _ _ _ _ _ := fun n z => lb_set (L0.out.drewN n) 1 (by decide) a hA1 z
          go_upto_region 12 with (fail)
          go_quiet (fail)
          cases co
          case true =>
            go_wp2_with (first | (go_at_call 52; refine (l_word _ _).mono ?_; rintro e w5 ⟨x, x0, x1, rfl, rfl⟩) | (go_at_call 21; refine (hse1 _ _).mono ?_; rintro e w6 ⟨rfl, hL⟩; have L1 := Lib.hid hL; clear hL))
            all_goals go_meet
            all_goals exact ⟨_, Lib.hid (fn_orec HF.out x0 x1), L1⟩
          case false =>
            go_wp2_with (first | (go_at_call 21; refine (hse2 _ _).mono ?_; rintro e w6 ⟨rfl, hL⟩; have L1 := Lib.hid hL; clear hL))
            all_goals go_meet
            all_goals exact ⟨_, Lib.hid (fn_data HF.out), L1⟩
        · have hnI : (n4 : Int) ≤ i := by omega
          go_wp2_with fail
          all_goals go_meet
          all_goals exact ⟨_, HF, L0⟩
      case rest =>
        clear HF L0
        obtain ⟨A2, HF, L0⟩ := hcut
        obtain ⟨hA2, hA1, x0, x1⟩ := HF.out
        obtain ⟨x, hx⟩ : ∃ x, (A2 2).getD o 0 = x := ⟨_, rfl⟩
        rw [hx] at x0 x1
        obtain ⟨y, hy⟩ : ∃ y, (A2 1).getD a 0 = y := ⟨_, rfl⟩
        obtain ⟨k1, k2, k3, k4, k5, d, hac⟩ := nAc_ex a o x y t
        have hin := nAt_in (r := r) (x := x) (bf := bf) ht
        have hs1 := x_step L0.out.drew 1 rfl ht hA2 hA1 hx x0 (by omega) hy (Lib.hid hac)
        have hs2 := fun (W : World) (hW : Lb w0 lo hi b rb q A2 A2 [(gp, TP, #[.pointer (some ⟨b, 0, none⟩), .pointer (some ⟨rb, 0, none⟩)]), (gx, TRd, pB a o r (nAt r x t bf) (nBf x t bf) (nVl y t vl)), (gy, TQd, rB a o r t bf vl)] W) => y_step hW 2 rfl ht hA2 hA1 hx x0 (by omega) hy (Lib.hid hac)
        obtain ⟨t1, ht1⟩ : ∃ t1, nAt r x t bf = t1 := ⟨_, rfl⟩
        obtain ⟨b1, hb1⟩ : ∃ b1, nBf x t bf = b1 := ⟨_, rfl⟩
        obtain ⟨v1, hv1⟩ : ∃ v1, nVl y t vl = v1 := ⟨_, rfl⟩
        simp only [ht1, hb1, hv1, List.set_cons_succ, List.set_cons_zero] at hs1 hs2 hin
        clear hac ht1 hb1 hv1 hx hy x0 x1 hA1 hA2
        obtain ⟨D, hD⟩ : ∃ D, decide (3 ≤ t1) = D := ⟨_, rfl⟩
        obtain ⟨C, hC⟩ : ∃ C, (t1 == 4) = C := ⟨_, rfl⟩
        have hf3 := fun (W : World) (hW : Lb w0 lo hi b rb q A2 A2 [(gp, TP, #[.pointer (some ⟨b, 0, none⟩), .pointer (some ⟨rb, 0, none⟩)]), (gx, TRd, pB a o r t1 b1 v1), (gy, TQd, rB a o r t1 b1 v1)] W) => x_done hW 1 rfl hin (Lib.hid hD)
        have hf4 := fun (W : World) (hW : Lb w0 lo hi b rb q A2 A2 [(gp, TP, #[.pointer (some ⟨b, 0, none⟩), .pointer (some ⟨rb, 0, none⟩)]), (gx, TRd, pB a o r t1 b1 v1), (gy, TQd, rB a o r t1 b1 v1)] W) => y_done hW 2 rfl (Lib.hid hD)
        have hf5 := fun (W : World) (hW : Lb w0 lo hi b rb q A2 A2 [(gp, TP, #[.pointer (some ⟨b, 0, none⟩), .pointer (some ⟨rb, 0, none⟩)]), (gx, TRd, pB a o r t1 b1 v1), (gy, TQd, rB a o r t1 b1 v1)] W) => x_conflict hW 1 rfl (Lib.hid hC)
        have HD := Lib.hid hD
        clear hD
        go_upto_region 17 with (fail)
        go_cut [123] (fun gv wc => gv = .bool false ∧ Hid (Lb w0 lo hi b rb q A2 A2 [(gp, TP, #[.pointer (some ⟨b, 0, none⟩), .pointer (some ⟨rb, 0, none⟩)]), (gx, TRd, pB a o r t1 b1 v1), (gy, TQd, rB a o r t1 b1 v1)] wc))
        case first =>
          have q0 := L0.out.drew.c 0 0 rfl rfl
          have q1 := L0.out.drew.c 0 1 rfl rfl
          first | go_region_law (first
            | (go_simp; go_at_call 53; (with_reducible refine hs1.mono ?_); rintro e w5 ⟨rfl, hL5⟩; have q2 := hL5.c 0 0 rfl rfl; have q3 := hL5.c 0 1 rfl rfl)
            | (go_simp; go_at_call 54; (with_reducible refine (hs2 _ hL5).mono ?_); rintro e w6 ⟨rfl, hL6⟩; have q4 := hL6.c 0 0 rfl rfl; have q5 := hL6.c 0 1 rfl rfl; have q6 : w6.cell? ⟨gy, 3, none⟩ = some (.int .i64 t1) := hL6.c 2 3 rfl rfl)
            | (go_simp; go_at_call 55; (with_reducible refine (hf3 _ hL6).mono ?_); rintro e w7 ⟨rfl, rfl⟩)
            | (go_simp; go_at_call 56; (with_reducible refine (hf4 _ hL6).mono ?_); rintro e w7 ⟨rfl, rfl⟩)
            | (go_simp; go_at_call 57; (with_reducible refine (hf5 _ hL6).mono ?_); rintro e w7 ⟨rfl, rfl⟩)
            | (go_simp; go_at_call 29; (with_reducible refine (lb_same hL6).mono ?_); rintro e w8 ⟨rfl, hL8⟩)) | fail
          all_goals go_wp2_with fail
          all_goals go_meet
          all_goals exact ⟨rfl, Lib.hid hL8⟩
        case rest =>
          obtain ⟨rfl, L1⟩ := hcut
          clear hs1 hs2 hf3 hf4 hf5 L0
          have q6 : wc.cell? ⟨gy, 3, none⟩ = some (.int .i64 t1) := L1.out.c 2 3 rfl rfl
          have q7 : wc.cell? ⟨gy, 5, none⟩ = some (.int .u64 v1) := L1.out.c 2 5 rfl rfl
          by_cases h3 : t1 = 3
          · have h3b : (t1 == 3) = true := by simpa using h3
            have hval := x_value L1.out 1 rfl hin (Lib.hid (show vV t1 v1 = v1 from if_pos h3))
            clear h3
            go_wp2_with (go_at_call 58; refine hval.mono ?_; rintro e w7 ⟨rfl, n7, rfl⟩)
            go_roundw
            case rel => exact ⟨i + 1, t1, b1, v1, A2, by omega, by go_num, hin, HF, L1.out.drewN _⟩
            case measure => simp [intOf]; omega
          · have h3b : (t1 == 3) = false := by simpa using h3
            have hval := x_value L1.out 1 rfl hin (Lib.hid (show vV t1 v1 = 0 from if_neg h3))
            clear h3
            go_wp2_with (go_at_call 58; refine hval.mono ?_; rintro e w7 ⟨rfl, n7, rfl⟩)
            go_roundw
            case rel => exact ⟨i + 1, t1, b1, v1, A2, by omega, by go_num, hin, HF, L1.out.drewN _⟩
            case measure => simp [intOf]; omega
    · obtain rfl : i = 5 := by omega
      clear hlt hi5
      go_wp2_with (go_at_call 59; refine (l_awake _).mono ?_; rintro e w9 ⟨rfl, hb⟩)
      have HBF := Lib.hid (below_trans2 HB0.out (below_trans2 L0.out.old hb))
      clear hb
      go_ret
      exact ⟨rfl, .of_below HBF.out⟩

/-! The row's step. -/
set_option maxRecDepth 100000 in
theorem lifted (os : Os) (started : os.Started) (H : Type) (enc : TypeId × Value → H) :
    ReturnsInHanded {} Try.checked os 8 .any (Rows.readerFollowsSpec.pre6 enc Try.prog Try.f8 Rows.readerFollowsRow.domain false) (Rows.readerFollowsSpec.post enc Try.prog Try.f8 false true false false) := by
  refine returnsInHanded_of_change (C := Try.checked) own started (by kernel_rfl) Try.func8
    (ChangeSpec.witness6 (enc := enc) (C := Try.checked) false ⟨#[], #[.agg #[.int .i64 0, .int .i64 0, .int .i64 0, .int .i64 0, .int .i64 0], .int .i64 0, .int .i64 0, .int .i64 0, .slice none 0 0], []⟩ 8 (by kernel_rfl) (by kernel_rfl) (by kernel_rfl) (by kernel_rfl)) ?_
  intro W base args ds gs before hval0 hW hcnd _
  have hval : ∀ (j : Nat) t v, Try.f8.params[j]? = some t → args[j]? = some v → Value.okWide Try.prog W .any base t v := hval0
  have hW' := hW
  obtain ⟨p, q, hA0, hV, rfl, hfz, hnd⟩ := hW
  have hA : DataW.TrodAll enc Try.prog W 0 (fun _ => true) true Try.f8.params.toList args.toList ds p := hA0
  rw [Try.params8] at hA hval
  obtain ⟨v0, vs0, d0, ds0, p0, q0, hargs, rfl, rfl, h0, r0⟩ := trodAll_cons hA
  obtain ⟨v1, vs1, d1, ds1, p1, q1, rfl, rfl, rfl, h1, r1⟩ := trodAll_cons r0
  obtain ⟨v2, vs2, d2, ds2, p2, q2, rfl, rfl, rfl, h2, r2⟩ := trodAll_cons r1
  obtain ⟨v3, vs3, d3, ds3, p3, q3, rfl, rfl, rfl, h3, r3⟩ := trodAll_cons r2
  obtain ⟨v4, vs4, d4, ds4, p4, q4, rfl, rfl, rfl, h4, r4⟩ := trodAll_cons r3
  obtain ⟨rfl, rfl, rfl⟩ := trodAll_nil r4
  obtain rfl : args = #[v0, v1, v2, v3, v4] := by cases args; simp_all
  obtain ⟨rfl, rfl⟩ := trodVars_none hV
  have hk : ∀ W', Kept W W' → Rows.readerFollowsSpec.post enc Try.prog Try.f8 false true false false W #[v0, v1, v2, v3, v4] (.bool true) W' := fun W' hb =>
    post_law laidOut readable rfl Try.underlying4 rfl hW' rfl hb
  clear hA0 hval0 hA hW'
  obtain ⟨x0_0, x0_1, x0_2, x0_3, x0_4, rfl, wx0_0, wx0_1, wx0_2, wx0_3, wx0_4⟩ := LayO.open_arr5 (hval 0 22 v0 rfl rfl) h0
  obtain ⟨a1, rfl, rfl, rfl, w1⟩ := open_int Try.underlying3 (hval 1 3 v1 rfl rfl) h1
  obtain ⟨a2, rfl, rfl, rfl, w2⟩ := open_int Try.underlying3 (hval 2 3 v2 rfl rfl) h2
  obtain ⟨a3, rfl, rfl, rfl, w3⟩ := open_int Try.underlying3 (hval 3 3 v3 rfl rfl) h3
  obtain ⟨A4, n4, c4, rfl, l4, m4, s4⟩ := RdO.open_row (hval 4 85 v4 rfl rfl) h4
  refine (walk W x0_0 x0_1 x0_2 x0_3 x0_4 wx0_0 wx0_1 wx0_2 wx0_3 wx0_4 a1 w1 a2 w2 a3 w3 A4 n4 c4 l4 m4 s4).mono fun e W' ⟨he, hg⟩ => ?_
  subst he
  exact ⟨_, rfl, hk W' hg⟩

theorem over : Rows.readerFollowsRow.holds Try.pinned (OpenSpec.ofChange Rows.readerFollowsSpec) :=
  OpenClaim.holds_of_wide 8 Try.f8 rfl rfl rfl rfl rfl rfl rfl ⟨rfl, rfl, rfl, rfl, rfl⟩ rfl rfl rfl rfl rfl (by kernel_rfl) Try.func8 (by kernel_rfl)
    (of_decide_eq_true (by kernel_rfl)) (by unfold Func.isWrapper; first | (rw [if_pos (by decide +kernel)]; kernel_rfl) | (rw [if_neg (by decide +kernel)]; exact ⟨rfl, rfl⟩))
    (fun os started H enc _ => lifted os started H enc)

/-- The statement. -/
theorem proved : Rows.ReaderFollowsSaid :=
  over
#print axioms proved
end Go.Proofs.Ytcbhpoajpingcaa.readerFollows
