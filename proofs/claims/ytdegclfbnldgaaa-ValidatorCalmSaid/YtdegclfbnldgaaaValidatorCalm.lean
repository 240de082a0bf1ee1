/-
  Proved: an undisturbed validation fails exactly if some orec of the list has a version greater than the snapshot, whoever holds it; it loads the orecs up to the first such one. No condition.
-/
import Derived.Test.YtdegclfbnldgaaaRows
import Derived.WalkKit
import Derived.ProofKit
import Derived.OpenShut
import Derived.Test.YtdegclfbnldgaaaFrame
import Derived.Test.YtdegclfbnldgaaaVaL
import Derived.Test.YtdegclfbnldgaaaLayO
import Derived.Deep.RegionHeld3
import Derived.Deep.RegionLaw
import Derived.Deep.Cut
import Derived.Deep.DeepCutAuto
import Derived.Deep.CutBlock
import Derived.BigQuiet
import Derived.Deep.QuietTactic
namespace Go.Proofs.Ytdegclfbnldgaaa.validatorCalm
open Go.ChangeShapes Go.WideShapes Go.ChangeAt Go.RowKit
open LawFrame
open Go.ChangeMaps (open_string)
set_option linter.unusedVariables false

theorem own : ownKnob Try.prog.godebug = none := by kernel_rfl
theorem laidOut : laidOutB Try.prog = true := by kernel_rfl
theorem cells3 : Try.prog.cellsOf 3 = 1 := by kernel_rfl

open LawFrame PlainT BlkW LayS LayA LayH LayK LayP CelS CelM CelP CelV CelN CelO CelF LabD LabR LabP LabS LabX LabN CelLo WordC RsA ObjA ClnA VaA VaB VaL
set_option maxHeartbeats 20000000
set_option maxRecDepth 400000

theorem readable : ∀ t ∈ Try.f6.params.toList, Try.prog.readableRec t = true ∧ t < Try.prog.types.size := by
  have h : (Try.f6.params.toList.all fun t => Try.prog.readableRec t && decide (t < Try.prog.types.size)) = true := by kernel_rfl
  intro t ht
  have := List.all_eq_true.1 h t ht
  simpa using this

/-! The walk. -/
theorem walk (w : World) (A0 : Option Addr) (n0 c0 : Nat) (z0 : List Int) (l0 : n0 ≤ c0) (m0 : c0 ≤ maxLen) (s0 : Ints .i64 w A0 n0 z0) (a1 : Int) (w1 : (Lit.int .i64 a1).wf = true) (A2 : Option Addr) (n2 c2 : Nat) (z2 : List Int) (l2 : n2 ≤ c2) (m2 : c2 ≤ maxLen) (s2 : Ints .i64 w A2 n2 z2) :
    Calls Try.prog 6 #[.slice A0 n0 c0, .int .i64 a1, .slice A2 n2 c2] w fun e w' => e = .returned (.bool true) ∧ Kept w w' := by
  obtain ⟨W, hW12, hW5, hWc⟩ := l_orecs s0 c0
  have HOK : Hid (LOk W) := Lib.hid ⟨hW12, hW5⟩
  have HWc := Lib.hid hWc
  have HZ2 := Lib.hid s2
  clear hW5 hWc s0 l0 m0 s2 l2 m2
  clear w1
  go_enter Try.func6, Try.ntmps6
  go_upto_region 2 with (first
    | (go_at_call 30; (with_reducible refine (l_config16 _).mono ?_); rintro e wa ⟨rfl, hb1⟩)
    | (go_at_call 29; (with_reducible refine (start_six 2 2 rfl (by decide) (by decide) _).mono ?_); rintro e w2 ⟨A, lo, hi, b, rb, rfl, hst⟩))
  have L0 : Hid (Lo wa lo hi b rb q6 A A [] w2) := Lib.hid (Lo.begunN hst)
  have HV : Hid (VB 260 (A 2)) := Lib.hid (by rw [(begun_six hst).1]; exact vb_zero (by decide))
  have HB1 := Lib.hid hb1
  clear hst hb1
  have L1 := Lib.hid (L0.out.new TP #[.pointer (some ⟨b, 0, none⟩), .pointer (some ⟨rb, 0, none⟩)])
  obtain ⟨gp, hn⟩ : ∃ gp, w2.heap.size = gp := ⟨_, rfl⟩
  rw [hn] at L1
  first | rw [hn] | skip
  clear hn
  obtain ⟨W1, hW⟩ : ∃ W', w2.alloc (.cells #[.pointer (some ⟨b, 0, none⟩), .pointer (some ⟨rb, 0, none⟩)] TP) = W' := ⟨_, rfl⟩
  rw [hW] at L1
  first | rw [hW] | skip
  clear hW
  have L1 : Hid (Lo wa lo hi b rb q6 A A [bx gp TP #[.pointer (some ⟨b, 0, none⟩), .pointer (some ⟨rb, 0, none⟩)]] W1) := L1
  clear L0
  go_wp2_with fail
  go_loopw [9] (fun iv wr => ∃ (p : Nat) (A2 : Int → List Int), p ≤ 6 ∧ iv = .int .i64 p ∧ Hid (VB 260 (A2 2)) ∧ Hid (Lo wa lo hi b rb q6 A2 A2 [bx gp TP #[.pointer (some ⟨b, 0, none⟩), .pointer (some ⟨rb, 0, none⟩)]] wr)) (fun iv _ => 6 - (intOf iv).toNat)
  case atStart => exact ⟨0, A, by omega, rfl, HV, L1⟩
  case round =>
    clear L1 HV
    obtain ⟨p, A2, hp6, rfl, HV, L0⟩ := hrel
    by_cases hp : p < 6
    · have hpI : (p : Int) < 6 := by omega
      have hkk : ∀ (W : World) (A : Int → List Int), Lo wa lo hi b rb q6 A A [bx gp TP #[.pointer (some ⟨b, 0, none⟩), .pointer (some ⟨rb, 0, none⟩)]] W → (fun W : World => W.cell? ⟨gp, 0, none⟩ = some (.pointer (some ⟨b, 0, none⟩)) ∧ W.cell? ⟨gp, 1, none⟩ = some (.pointer (some ⟨rb, 0, none⟩))) W := fun W A h => ⟨h.c 0 0 rfl rfl, h.c 0 1 rfl rfl⟩
      have hs0 : (fun W : World => W.cell? ⟨gp, 0, none⟩ = some (.pointer (some ⟨b, 0, none⟩)) ∧ W.cell? ⟨gp, 1, none⟩ = some (.pointer (some ⟨rb, 0, none⟩))) wr.drew := hkk _ _ L0.out.drew
      have hat := k_at c2 HZ2.out (below_trans2 HB1.out L0.out.drew.old) p
      have hse := fun x => lo_set L0.out.drew 2 (by decide) p (by rw [HV.out.1]; exact hp) x
      go_upto_region 7 with (fail)
      go_region_held3 (fun W : World => W.cell? ⟨gp, 0, none⟩ = some (.pointer (some ⟨b, 0, none⟩)) ∧ W.cell? ⟨gp, 1, none⟩ = some (.pointer (some ⟨rb, 0, none⟩))) (first | (with_reducible exact hs0) | (with_reducible assumption)) (first
          | (go_at_call 20; (with_reducible refine hat.mono ?_); rintro e w3 ⟨v, rfl, rfl⟩)
          | (go_at_call 31; (with_reducible refine (l_word_ex _ _).mono ?_); rintro e w4 ⟨x, x0, x1, rfl, rfl⟩)
          | (go_at_call 18; (with_reducible refine (hse _).mono ?_); rintro e w6 ⟨rfl, hL⟩; have hk1 := hkk _ _ hL))
      have L1 := Lib.hid hL
      have HV2 : Hid (VB 260 (upd A2 2 p x 2)) := Lib.hid (by rw [upd2]; exact vb_set HV.out hp x0 x1)
      clear hs0 hat hse hkk hk1 hL L0
      go_wp2_with fail
      go_roundw
      case rel => exact ⟨p + 1, _, by omega, by go_num, HV2, L1⟩
      case measure => (first | (simp [intOf]; omega) | simp [intOf])
    · have hge : (6 : Int) ≤ p := by omega
      clear hp hp6
      obtain ⟨v, hv⟩ : ∃ v, pl a1 6 = v := ⟨_, rfl⟩
      have hpl := k_place a1 6 v (by decide) (by decide) hv
      clear hv
      have hB := below_trans2 HB1.out L0.out.old
      have hwa1 := HWc.out wr hB
      go_upto_region 10 with (first
      | (go_at_call 11; (with_reducible refine (hpl _).mono ?_); rintro e wp ⟨rfl, rfl⟩)
      | (go_at_call 33; (with_reducible refine hwa1.mono ?_); rintro e w3 ⟨pw, cw, rfl, how, hbw⟩))
      have L1 : Hid (Lo wa lo hi b rb q6 A2 A2 [bx gp TP #[.pointer (some ⟨b, 0, none⟩), .pointer (some ⟨rb, 0, none⟩)], rd .i64 (.slice pw W.length cw) W] w3) := Lib.hid (L0.out.add hbw (o := rd .i64 (.slice pw W.length cw) W) (rdr_own how) fun x hx => (World.ownsRow.lt how x (blk_mem hx)).1)
      clear hpl hwa1 how hbw hB L0 hge
      have hnew := x_new L1.out (.slice pw W.length cw) v W (L1.out.is 1 _ rfl) hW12
      go_upto_region 13 with (go_at_call 32; (with_reducible refine hnew.mono ?_); rintro e w4 ⟨ga, va, rfl, hL4⟩)
      have L2 : Hid (Lo wa lo hi b rb q6 A2 A2 [bx gp TP #[.pointer (some ⟨b, 0, none⟩), .pointer (some ⟨rb, 0, none⟩)], rd .i64 (.slice pw W.length cw) W, ckM ga v va false (W.drop 0)] w4) := Lib.hid hL4
      clear hL4 hnew L1
      have hlw : wrap64 ((W.length : Int) - 1) = (W.length : Int) - 1 := IntWalk.wrap64_in _ (by omega)
      obtain ⟨zs, hzs⟩ : ∃ zs : Int, (W.length : Int) - 1 = zs := ⟨_, rfl⟩
      rw [hzs] at hlw
      have HZS := Lib.hid hzs
      go_wp2_with fail
      go_loopw [14, 15] (fun bv iv wr => ∃ (j bad : Nat) (z : Int), j ≤ W.length ∧ Hid (z = (j : Int) - 1) ∧ iv = .int .i64 z ∧ bv = .int .i64 bad ∧ Hid (Bd v W (A2 2) j bad) ∧ Hid (Lo wa lo hi b rb q6 A2 A2 [bx gp TP #[.pointer (some ⟨b, 0, none⟩), .pointer (some ⟨rb, 0, none⟩)], rd .i64 (.slice pw W.length cw) W, ckM ga v va false (W.drop 0)] wr)) (fun _ iv _ => (intOf iv + 1).toNat)
      case atStart => exact ⟨W.length, W.length, zs, by omega, Lib.hid HZS.out.symm, rfl, rfl, Lib.hid (bd_start _ _ _), L2⟩
      case round =>
        clear L2 hlw hzs HZS
        obtain ⟨j, bad, z, hjl, HZ, rfl, rfl, HBd, L0⟩ := hrel
        by_cases hj : 0 < j
        · obtain ⟨m, rfl⟩ : ∃ m, j = m + 1 := ⟨j - 1, by omega⟩
          obtain rfl : z = (m : Int) := by rw [HZ.out]; omega
          have hm0 : (0 : Int) ≤ m := by omega
          have hml : m < W.length := by omega
          have hmlI : (m : Int) < W.length := by omega
          clear hj HZ hjl
          obtain ⟨hat, ho6⟩ := HOK.out.at_ hml
          obtain ⟨o, ho⟩ : ∃ o, cO W m = o := ⟨_, rfl⟩
          rw [ho] at hat ho6
          have hoI : (o : Int) < 6 := by omega
          have ho0 : (0 : Int) ≤ o := by omega
          obtain ⟨gl, ol, c, hsl, _, _, hcl⟩ := RdR.cell (L0.out.is 1 _ rfl) (by omega)
          injection hsl with hp1 _ hp3
          subst hp1 hp3
          have q0 := hcl m _ hat
          obtain ⟨gr, cr, q1, hrow⟩ := orec_row L0.out (by rw [HV.out.1]; decide)
          have q2 := hrow o (by rw [HV.out.1]; exact ho6)
          rw [HV.out.1] at q1
          obtain ⟨x, hx⟩ : ∃ x, (A2 2).getD o 0 = x := ⟨_, rfl⟩
          have hxb := HV.out.2 o
          rw [hx] at q2 hxb
          obtain ⟨x0, x1⟩ := hxb
          have hX : Hid (cX W m (A2 2) = x) := Lib.hid (by unfold cX; rw [ho]; exact hx)
          obtain ⟨y, hy⟩ : ∃ y, x / 64 = y := ⟨_, rfl⟩
          have hve := same_of (r_version x x0 (by omega))
          simp only [hy] at hve
          have HY := Lib.hid hy
          have q3 := L0.out.c 0 1 rfl rfl
          obtain ⟨F, hF⟩ : ∃ F, decide (v < y) = F := ⟨_, rfl⟩
          have HFX : Hid (decide (v < cX W m (A2 2) / 64) = F) := Lib.hid (by rw [hX.out, HY.out]; exact hF)
          clear hcl hrow ho hx hy hat x0 x1 hX
          go_upto_region 17 with (fail)
          go_quiet (first | (go_at_call 41; exact Calls.quiet_of_same (hve _)))
          clear q0 q1 q2 q3 hve
          cases F with
          | true =>
            have HB2 : Hid (Bd v W (A2 2) m m) := Lib.hid (bd_bad HBd.out HFX.out)
            go_wp2_with fail
            go_roundw
            case rel => exact ⟨m, m, (m : Int) - 1, by omega, Lib.hid rfl, by go_num, by go_num, HB2, Lib.hid (L0.out.drewN _)⟩
            case measure => (first | (simp [intOf]; omega) | simp [intOf])
          | false =>
            have HB2 : Hid (Bd v W (A2 2) m bad) := Lib.hid (bd_fine HBd.out HFX.out)
            go_wp2_with fail
            go_roundw
            case rel => exact ⟨m, bad, (m : Int) - 1, by omega, Lib.hid rfl, by go_num, by go_num, HB2, Lib.hid (L0.out.drewN _)⟩
            case measure => (first | (simp [intOf]; omega) | simp [intOf])
        · obtain rfl : j = 0 := by omega
          have hz : z < 0 := by rw [HZ.out]; omega
          clear HZ hj hjl
          go_wp2_with fail
          go_loopw [13] (fun sv wr => ∃ (k : Nat) (f : Bool) (va : Value), sv = .int .i64 k ∧ Hid (Cv f k bad W.length) ∧ Hid (Lo wa lo hi b rb q6 A2 A2 [bx gp TP #[.pointer (some ⟨b, 0, none⟩), .pointer (some ⟨rb, 0, none⟩)], rd .i64 (.slice pw W.length cw) W, ckM ga v va f (W.drop k)] wr)) (fun sv _ => 20 - (intOf sv).toNat)
          case atStart => exact ⟨0, false, va, rfl, Lib.hid ⟨by omega, fun _ => by omega, fun e => by cases e⟩, L0⟩
          case round =>
            clear L0 hz
            obtain ⟨k, f, va, rfl, HC, L0⟩ := hrel
            have hkl := HC.out.1
            obtain ⟨D, hD⟩ : ∃ D, dn f W k = D := ⟨_, rfl⟩
            have HD := Lib.hid hD
            have hd1 := x_doneL (i := 2) L0.out rfl hkl HD
            have hk20 : (k : Int) < 20 := by omega
            clear hD
            cases D with
            | false =>
              obtain ⟨rfl, hne⟩ := dn_false HD.out
              have hkl2 : k < W.length := by omega
              clear hne HD
              obtain ⟨gl, ol, c, hsl, _, _, _⟩ := RdR.cell (L0.out.is 1 _ rfl) (by omega)
              injection hsl with hp1 _ hp3
              subst hp1 hp3
              obtain ⟨hat, ho6⟩ := HOK.out.at_ hkl2
              obtain ⟨F, hF⟩ : ∃ F, decide (v < cX W k (A2 2) / 64) = F := ⟨_, rfl⟩
              have hst : ∀ w4, Lo wa lo hi b rb q6 A2 A2 [bx gp TP #[.pointer (some ⟨b, 0, none⟩), .pointer (some ⟨rb, 0, none⟩)], rd .i64 (.slice (some ⟨gl, ol, none⟩) W.length cw) W, ckM ga v va false (W.drop k)] w4 → w4.cell? ⟨gp, 0, none⟩ = some (.pointer (some ⟨b, 0, none⟩)) ∧ Calls _ _ _ _ _ := fun w4 h => ⟨h.c 0 0 rfl rfl, x_go (i := 2) h rfl HOK.out hkl2 (vb_ok HV.out (by decide)) hF⟩
              have HC2 : Hid (Cv F (k + 1) bad W.length) := Lib.hid (cv_next HBd.out HC.out hkl2 hF)
              clear hF
              obtain ⟨o, ho⟩ : ∃ o, cO W k = o := ⟨_, rfl⟩
              obtain ⟨x, hx⟩ : ∃ x, cX W k (A2 2) = x := ⟨_, rfl⟩
              simp only [ho, hx] at hst
              rw [ho] at hat ho6
              clear hx
              go_upto_region 21 with (first
          | (go_at_call 35; (with_reducible refine hd1.mono ?_); rintro e w4 ⟨rfl, hL4⟩; obtain ⟨q0, hst⟩ := hst _ hL4)
          | (go_at_call 38; (with_reducible refine hst.mono ?_); rintro e w5 ⟨rfl, vb, hL5⟩))
              have L1 : Hid (Lo wa lo hi b rb q6 A2 A2 [bx gp TP #[.pointer (some ⟨b, 0, none⟩), .pointer (some ⟨rb, 0, none⟩)], rd .i64 (.slice (some ⟨gl, ol, none⟩) W.length cw) W, ckM ga v vb F (W.drop (k + 1))] w5) := Lib.hid hL5
              clear hL4 hL5 hst hd1 q0 L0
              have L2 := Lib.hid (L1.out.new 62 #[.int .i64 1, .int .i64 2, .int .i64 o, .int .u64 x, .int .u64 x, .bool true])
              obtain ⟨gx, hn⟩ : ∃ gx, w5.heap.size = gx := ⟨_, rfl⟩
              rw [hn] at L2
              first | rw [hn] | skip
              clear hn
              obtain ⟨W2, hW⟩ : ∃ W', w5.alloc (.cells #[.int .i64 1, .int .i64 2, .int .i64 o, .int .u64 x, .int .u64 x, .bool true] 62) = W' := ⟨_, rfl⟩
              rw [hW] at L2
              first | rw [hW] | skip
              clear hW
              have L2 : Hid (Lo wa lo hi b rb q6 A2 A2 [bx gp TP #[.pointer (some ⟨b, 0, none⟩), .pointer (some ⟨rb, 0, none⟩)], rd .i64 (.slice (some ⟨gl, ol, none⟩) W.length cw) W, ckM ga v vb F (W.drop (k + 1)), bx gx 62 #[.int .i64 1, .int .i64 2, .int .i64 o, .int .u64 x, .int .u64 x, .bool true]] W2) := L2
              clear L1
              have c2_3_0 : W2.cell? ⟨gx, 0, none⟩ = some (.int .i64 1) := L2.out.c 3 0 rfl rfl
              have c2_3_1 : W2.cell? ⟨gx, 1, none⟩ = some (.int .i64 2) := L2.out.c 3 1 rfl rfl
              have c2_3_2 : W2.cell? ⟨gx, 2, none⟩ = some (.int .i64 o) := L2.out.c 3 2 rfl rfl
              have q1 := Lo.rR (X := []) L2.out 1 rfl k hat
              have hkI : (k : Int) < W.length := by omega
              have hgeq : decide ((W.length : Int) ≤ k) = false := decide_eq_false (by omega)
              have hoo : ((o : Int) != (o : Int)) = false := by simp
              clear hat ho
              go_quiet (fail)
              have L3 : Hid (Lo wa lo hi b rb q6 A2 A2 [bx gp TP #[.pointer (some ⟨b, 0, none⟩), .pointer (some ⟨rb, 0, none⟩)], rd .i64 (.slice (some ⟨gl, ol, none⟩) W.length cw) W, ckM ga v vb F (W.drop (k + 1)), bx gx 62 #[.int .i64 1, .int .i64 2, .int .i64 o, .int .u64 x, .int .u64 x, .bool true]] (W2.drewN nq)) := Lib.hid (L2.out.drewN nq)
              obtain ⟨W3, hW⟩ : ∃ W', W2.drewN nq = W' := ⟨_, rfl⟩
              rw [hW] at L3
              first | rw [hW] | skip
              clear hW
              clear L2 c2_3_0 c2_3_1 c2_3_2
              clear q1
              have L9 := Lib.hid (Lo.drop (ex := [bx gp TP #[.pointer (some ⟨b, 0, none⟩), .pointer (some ⟨rb, 0, none⟩)], rd .i64 (.slice (some ⟨gl, ol, none⟩) W.length cw) W, ckM ga v vb F (W.drop (k + 1))]) (ex2 := [bx gx 62 #[.int .i64 1, .int .i64 2, .int .i64 o, .int .u64 x, .int .u64 x, .bool true]]) L3.out)
              go_wp2_with fail
              go_roundw
              case rel => exact ⟨k + 1, F, vb, by go_num, HC2, L9⟩
              case measure => (first | (simp [intOf]; omega) | simp [intOf])
            | true =>
              have hfa : ∀ w4, Lo wa lo hi b rb q6 A2 A2 [bx gp TP #[.pointer (some ⟨b, 0, none⟩), .pointer (some ⟨rb, 0, none⟩)], rd .i64 (.slice pw W.length cw) W, ckM ga v va f (W.drop k)] w4 → (w4.cell? ⟨gp, 0, none⟩ = some (.pointer (some ⟨b, 0, none⟩)) ∧ w4.cell? ⟨gp, 1, none⟩ = some (.pointer (some ⟨rb, 0, none⟩))) ∧ Calls _ _ _ _ _ := fun w4 h => ⟨⟨h.c 0 0 rfl rfl, h.c 0 1 rfl rfl⟩, x_failed (i := 2) h rfl⟩
              have HE := Lib.hid (cv_cases HBd.out HC.out HD.out)
              clear HD HC HBd
              rcases HE.out with ⟨hf, b1, b2⟩ | ⟨hf, b1, b2⟩
              · subst hf
                have t1 : (bad : Int) < W.length := by omega
                have t2 : (bad : Int) + 1 ≤ W.length := by omega
                have t3 : decide ((W.length : Int) < (bad : Int) + 1) = false := decide_eq_false (by omega)
                have t4 : ((k : Int) == (bad : Int) + 1) = true := by rw [beq_iff_eq]; omega
                have hbw : wrap64 ((bad : Int) + 1) = (bad : Int) + 1 := IntWalk.wrap64_in _ (by omega)
                clear HE b1 b2
                go_wp2_with (first
          | (go_at_call 35; (with_reducible refine hd1.mono ?_); rintro e w4 ⟨rfl, hL4⟩; obtain ⟨⟨q0, q1⟩, hfa⟩ := hfa _ hL4)
          | (go_at_call 37; (with_reducible refine hfa.mono ?_); rintro e w5 ⟨rfl, rfl⟩)
          | (go_at_call 28; (with_reducible refine (lo_same hL4).mono ?_); rintro e w6 ⟨rfl, hL6⟩)
          | (go_at_call 40; (with_reducible refine (l_awake _).mono ?_); rintro e wz ⟨rfl, hbz⟩))
                have HF := Lib.hid (below_trans2 HB1.out (below_trans2 hL6.old hbz))
                clear hd1 hfa hbz hL4 hL6 q0 q1 L0
                go_ret
                exact ⟨rfl, .of_below HF.out⟩
              · subst hf
                have t1 : decide ((bad : Int) < W.length) = false := decide_eq_false (by omega)
                have t5 : decide (bad < W.length) = false := decide_eq_false (by omega)
                have t2 : (W.length : Int) < (bad : Int) + 1 := by omega
                have t3 : decide ((bad : Int) + 1 ≤ (W.length : Int)) = false := decide_eq_false (by omega)
                have t4 : ((k : Int) == (W.length : Int)) = true := by rw [beq_iff_eq]; omega
                have hbw : wrap64 ((bad : Int) + 1) = (bad : Int) + 1 := IntWalk.wrap64_in _ (by omega)
                clear HE b1 b2
                go_wp2_with (first
          | (go_at_call 35; (with_reducible refine hd1.mono ?_); rintro e w4 ⟨rfl, hL4⟩; obtain ⟨⟨q0, q1⟩, hfa⟩ := hfa _ hL4)
          | (go_at_call 37; (with_reducible refine hfa.mono ?_); rintro e w5 ⟨rfl, rfl⟩)
          | (go_at_call 28; (with_reducible refine (lo_same hL4).mono ?_); rintro e w6 ⟨rfl, hL6⟩)
          | (go_at_call 40; (with_reducible refine (l_awake _).mono ?_); rintro e wz ⟨rfl, hbz⟩))
                have HF := Lib.hid (below_trans2 HB1.out (below_trans2 hL6.old hbz))
                clear hd1 hfa hbz hL4 hL6 q0 q1 L0
                go_ret
                exact ⟨rfl, .of_below HF.out⟩

/-! The row's step. -/
set_option maxRecDepth 100000 in
theorem lifted (os : Os) (started : os.Started) (H : Type) (enc : TypeId × Value → H) :
    ReturnsInHanded {} Try.checked os 6 .any (Rows.validatorCalmSpec.pre6 enc Try.prog Try.f6 Rows.validatorCalmRow.domain false) (Rows.validatorCalmSpec.post enc Try.prog Try.f6 false true false false) := by
  refine returnsInHanded_of_change (C := Try.checked) own started (by kernel_rfl) Try.func6
    (ChangeSpec.witness6 (enc := enc) (C := Try.checked) false ⟨#[], #[.slice none 0 0, .int .i64 0, .slice none 0 0], []⟩ 8 (by kernel_rfl) (by kernel_rfl) (by kernel_rfl) (by kernel_rfl)) ?_
  intro W base args ds gs before hval0 hW hcnd _
  have hval : ∀ (j : Nat) t v, Try.f6.params[j]? = some t → args[j]? = some v → Value.okWide Try.prog W .any base t v := hval0
  have hW' := hW
  obtain ⟨p, q, hA0, hV, rfl, hfz, hnd⟩ := hW
  have hA : DataW.TrodAll enc Try.prog W 0 (fun _ => true) true Try.f6.params.toList args.toList ds p := hA0
  rw [Try.params6] at hA hval
  obtain ⟨v0, vs0, d0, ds0, p0, q0, hargs, rfl, rfl, h0, r0⟩ := trodAll_cons hA
  obtain ⟨v1, vs1, d1, ds1, p1, q1, rfl, rfl, rfl, h1, r1⟩ := trodAll_cons r0
  obtain ⟨v2, vs2, d2, ds2, p2, q2, rfl, rfl, rfl, h2, r2⟩ := trodAll_cons r1
  obtain ⟨rfl, rfl, rfl⟩ := trodAll_nil r2
  obtain rfl : args = #[v0, v1, v2] := by cases args; simp_all
  obtain ⟨rfl, rfl⟩ := trodVars_none hV
  have hk : ∀ W', Kept W W' → Rows.validatorCalmSpec.post enc Try.prog Try.f6 false true false false W #[v0, v1, v2] (.bool true) W' := fun W' hb =>
    post_law laidOut readable rfl Try.underlying4 rfl hW' rfl hb
  clear hA0 hval0 hA hW'
  obtain ⟨A0, n0, c0, z0, rfl, l0, m0, s0⟩ := open_slice Try.underlying47 Try.underlying3 cells3 (hval 0 47 v0 rfl rfl) h0
  obtain ⟨a1, rfl, rfl, rfl, w1⟩ := open_int Try.underlying3 (hval 1 3 v1 rfl rfl) h1
  obtain ⟨A2, n2, c2, z2, rfl, l2, m2, s2⟩ := open_slice Try.underlying47 Try.underlying3 cells3 (hval 2 47 v2 rfl rfl) h2
  refine (walk W A0 n0 c0 z0 l0 m0 s0 a1 w1 A2 n2 c2 z2 l2 m2 s2).mono fun e W' ⟨he, hg⟩ => ?_
  subst he
  exact ⟨_, rfl, hk W' hg⟩

theorem over : Rows.validatorCalmRow.holds Try.pinned (OpenSpec.ofChange Rows.validatorCalmSpec) :=
  OpenClaim.holds_of_wide 6 Try.f6 rfl rfl rfl rfl rfl rfl rfl ⟨rfl, rfl, rfl, rfl, rfl⟩ rfl rfl rfl rfl rfl (by kernel_rfl) Try.func6 (by kernel_rfl)
    (of_decide_eq_true (by kernel_rfl)) (by unfold Func.isWrapper; first | (rw [if_pos (by decide +kernel)]; kernel_rfl) | (rw [if_neg (by decide +kernel)]; exact ⟨rfl, rfl⟩))
    (fun os started H enc _ => lifted os started H enc)

/-- The statement. -/
theorem proved : Rows.ValidatorCalmSaid :=
  over
#print axioms proved
end Go.Proofs.Ytdegclfbnldgaaa.validatorCalm
