/-
  Proved: a validation makes the operations of the document, step by step, while orecs change between the steps. No condition.
-/
import Derived.Test.YtdegclfbnldgaaaRows
import Derived.WalkKit
import Derived.ProofKit
import Derived.OpenShut
import Derived.Test.YtdegclfbnldgaaaFrame
import Derived.Test.YtdegclfbnldgaaaVaL
import Derived.Test.YtdegclfbnldgaaaLayO
import Derived.Deep.RegionHeld3
import Derived.Deep.RegionLaw
import Derived.Deep.Cut
import Derived.Deep.DeepCutAuto
import Derived.Deep.CutBlock
import Derived.BigQuiet
import Derived.Deep.QuietTactic
namespace Go.Proofs.Ytdegclfbnldgaaa.validatorFollows
open Go.ChangeShapes Go.WideShapes Go.ChangeAt Go.RowKit
open LawFrame
open Go.ChangeMaps (open_string)
set_option linter.unusedVariables false

theorem own : ownKnob Try.prog.godebug = none := by kernel_rfl
theorem laidOut : laidOutB Try.prog = true := by kernel_rfl
theorem cells3 : Try.prog.cellsOf 3 = 1 := by kernel_rfl

open LawFrame PlainT BlkW LayS LayA LayH LayK LayP CelS CelM CelP CelV CelN CelO CelF LabD LabR LabP LabS LabX LabN CelLo WordC RsA ObjA ClnA VaA VaB VaL
set_option maxHeartbeats 20000000
set_option maxRecDepth 400000

theorem readable : ∀ t ∈ Try.f5.params.toList, Try.prog.readableRec t = true ∧ t < Try.prog.types.size := by
  have h : (Try.f5.params.toList.all fun t => Try.prog.readableRec t && decide (t < Try.prog.types.size)) = true := by kernel_rfl
  intro t ht
  have := List.all_eq_true.1 h t ht
  simpa using this

/-! The walk. -/
theorem walk (w : World) (A0 : Option Addr) (n0 c0 : Nat) (z0 : List Int) (l0 : n0 ≤ c0) (m0 : c0 ≤ maxLen) (s0 : Ints .i64 w A0 n0 z0) (a1 : Int) (w1 : (Lit.int .i64 a1).wf = true) (A2 : Option Addr) (n2 c2 : Nat) (z2 : List Int) (l2 : n2 ≤ c2) (m2 : c2 ≤ maxLen) (s2 : Ints .i64 w A2 n2 z2) (A3 : Option Addr) (n3 c3 : Nat) (z3 : List Int) (l3 : n3 ≤ c3) (m3 : c3 ≤ maxLen) (s3 : Ints .i64 w A3 n3 z3) :
    Calls Try.prog 5 #[.slice A0 n0 c0, .int .i64 a1, .slice A2 n2 c2, .slice A3 n3 c3] w fun e w' => e = .returned (.bool true) ∧ Kept w w' := by
  obtain ⟨W, hW12, hW5, hWc⟩ := l_orecs s0 c0
  have HOK : Hid (LOk W) := Lib.hid ⟨hW12, hW5⟩
  have HWc := Lib.hid hWc
  have HZ2 := Lib.hid s2
  have HZ3 := Lib.hid s3
  clear hW5 hWc s0 l0 m0 s2 l2 m2 s3 l3 m3
  clear w1
  go_enter Try.func5, Try.ntmps5
  go_upto_region 2 with (first
    | (go_at_call 30; (with_reducible refine (l_config16 _).mono ?_); rintro e wa ⟨rfl, hb1⟩)
    | (go_at_call 29; (with_reducible refine (start_six 2 2 rfl (by decide) (by decide) _).mono ?_); rintro e w2 ⟨A, lo, hi, b, rb, rfl, hst⟩))
  have L0 : Hid (Lo wa lo hi b rb q6 A A [] w2) := Lib.hid (Lo.begunN hst)
  have HV : Hid (VB 260 (A 2)) := Lib.hid (by rw [(begun_six hst).1]; exact vb_zero (by decide))
  have HB1 := Lib.hid hb1
  clear hst hb1
  have L1 := Lib.hid (L0.out.new TP #[.pointer (some ⟨b, 0, none⟩), .pointer (some ⟨rb, 0, none⟩)])
  obtain ⟨gp, hn⟩ : ∃ gp, w2.heap.size = gp := ⟨_, rfl⟩
  rw [hn] at L1
  first | rw [hn] | skip
  clear hn
  obtain ⟨W1, hW⟩ : ∃ W', w2.alloc (.cells #[.pointer (some ⟨b, 0, none⟩), .pointer (some ⟨rb, 0, none⟩)] TP) = W' := ⟨_, rfl⟩
  rw [hW] at L1
  first | rw [hW] | skip
  clear hW
  have L1 : Hid (Lo wa lo hi b rb q6 A A [bx gp TP #[.pointer (some ⟨b, 0, none⟩), .pointer (some ⟨rb, 0, none⟩)]] W1) := L1
  clear L0
  go_wp2_with fail
  go_loopw [11] (fun iv wr => ∃ (p : Nat) (A2 : Int → List Int), p ≤ 6 ∧ iv = .int .i64 p ∧ Hid (VB 260 (A2 2)) ∧ Hid (Lo wa lo hi b rb q6 A2 A2 [bx gp TP #[.pointer (some ⟨b, 0, none⟩), .pointer (some ⟨rb, 0, none⟩)]] wr)) (fun iv _ => 6 - (intOf iv).toNat)
  case atStart => exact ⟨0, A, by omega, rfl, HV, L1⟩
  case round =>
    clear L1 HV
    obtain ⟨p, A2, hp6, rfl, HV, L0⟩ := hrel
    by_cases hp : p < 6
    · have hpI : (p : Int) < 6 := by omega
      have hkk : ∀ (W : World) (A : Int → List Int), Lo wa lo hi b rb q6 A A [bx gp TP #[.pointer (some ⟨b, 0, none⟩), .pointer (some ⟨rb, 0, none⟩)]] W → (fun W : World => W.cell? ⟨gp, 0, none⟩ = some (.pointer (some ⟨b, 0, none⟩)) ∧ W.cell? ⟨gp, 1, none⟩ = some (.pointer (some ⟨rb, 0, none⟩))) W := fun W A h => ⟨h.c 0 0 rfl rfl, h.c 0 1 rfl rfl⟩
      have hs0 : (fun W : World => W.cell? ⟨gp, 0, none⟩ = some (.pointer (some ⟨b, 0, none⟩)) ∧ W.cell? ⟨gp, 1, none⟩ = some (.pointer (some ⟨rb, 0, none⟩))) wr.drew := hkk _ _ L0.out.drew
      have hat := k_at c2 HZ2.out (below_trans2 HB1.out L0.out.drew.old) p
      have hse := fun x => lo_set L0.out.drew 2 (by decide) p (by rw [HV.out.1]; exact hp) x
      go_upto_region 7 with (fail)
      go_region_held3 (fun W : World => W.cell? ⟨gp, 0, none⟩ = some (.pointer (some ⟨b, 0, none⟩)) ∧ W.cell? ⟨gp, 1, none⟩ = some (.pointer (some ⟨rb, 0, none⟩))) (first | (with_reducible exact hs0) | (with_reducible assumption)) (first
          | (go_at_call 20; (with_reducible refine hat.mono ?_); rintro e w3 ⟨v, rfl, rfl⟩)
          | (go_at_call 31; (with_reducible refine (l_word_ex _ _).mono ?_); rintro e w4 ⟨x, x0, x1, rfl, rfl⟩)
          | (go_at_call 18; (with_reducible refine (hse _).mono ?_); rintro e w6 ⟨rfl, hL⟩; have hk1 := hkk _ _ hL))
      have L1 := Lib.hid hL
      have HV2 : Hid (VB 260 (upd A2 2 p x 2)) := Lib.hid (by rw [upd2]; exact vb_set HV.out hp x0 x1)
      clear hs0 hat hse hkk hk1 hL L0
      go_wp2_with fail
      go_roundw
      case rel => exact ⟨p + 1, _, by omega, by go_num, HV2, L1⟩
      case measure => (first | (simp [intOf]; omega) | simp [intOf])
    · have hge : (6 : Int) ≤ p := by omega
      clear hp hp6
      obtain ⟨v, hv⟩ : ∃ v, pl a1 6 = v := ⟨_, rfl⟩
      have hpl := k_place a1 6 v (by decide) (by decide) hv
      clear hv
      go_upto_region 10 with (go_at_call 11; (with_reducible refine (hpl _).mono ?_); rintro e wp ⟨rfl, rfl⟩)
      clear hpl
      have hB := below_trans2 HB1.out L0.out.old
      have hwa1 := HWc.out wr hB
      have hnl1 : ∀ w2 p c, Below wr.heap.size wr w2 → RdR .i64 w2 (.slice p W.length c) W → Calls _ _ _ _ _ := fun w2 p c hb hr => x_new (L0.out.below hb) (.slice p W.length c) v W hr hW12
      have hwa2 : ∀ (w4 : World) (ex : List Ob), Lo wa lo hi b rb q6 A2 A2 ex w4 → Calls _ _ _ w4 _ := fun w4 ex h => HWc.out w4 (below_trans2 HB1.out h.old)
      have hnl2 : ∀ (w4 : World) (ex : List Ob), Lo wa lo hi b rb q6 A2 A2 ex w4 → ∀ w5 p c, Below w4.heap.size w4 w5 → w5.ownsRow w4.heap.size TI 1 (.slice p W.length c) W.length (W.map (Value.int .i64)) → Calls _ _ _ _ _ := fun w4 ex h w5 p c hb ho => y_new (r := v) (h.add hb (o := rd .i64 (.slice p W.length c) W) (rdr_own ho) fun x hx => (World.ownsRow.lt ho x (blk_mem hx)).1)
      go_upto_region 11 with (first
      | (go_at_call 33; (with_reducible refine hwa1.mono ?_); rintro e w3 ⟨pw, cw, rfl, how, hbw⟩; have hnl1 := hnl1 _ _ _ hbw (rdr_own how))
      | (go_at_call 32; (with_reducible refine hnl1.mono ?_); rintro e w4 ⟨ga, va, rfl, hL4⟩; have hwa2 := hwa2 _ _ hL4; have hnl2 := hnl2 _ _ hL4)
      | (go_at_call 33; (with_reducible refine hwa2.mono ?_); rintro e w5 ⟨pq, cq, rfl, hoq, hbq⟩; have hnl2 := hnl2 _ _ _ hbq hoq)
      | (go_at_call 34; (with_reducible refine hnl2.mono ?_); rintro e w6 ⟨gb, rfl, hL6⟩))
      have L1 : Hid (Lo wa lo hi b rb q6 A2 A2 [bx gp TP #[.pointer (some ⟨b, 0, none⟩), .pointer (some ⟨rb, 0, none⟩)], ckM ga v va false (W.drop 0), qcM gb v (.slice pq W.length cq) false W 0] w6) := Lib.hid hL6
      have HPr : Hid (Pr false W 0 0) := Lib.hid ⟨by omega, fun _ => by omega⟩
      clear hL6 hL4 hnl1 hnl2 hwa1 hwa2 how hoq hbw hbq hB L0 hge
      go_wp2_with fail
      go_loopw [15] (fun iv wr => ∃ (i k : Nat) (f : Bool) (va : Value) (A3 : Int → List Int), i ≤ 14 ∧ iv = .int .i64 i ∧ Hid (Pr f W k i) ∧ Hid (VB 260 (A3 2)) ∧ Hid (Lo wa lo hi b rb q6 A3 A3 [bx gp TP #[.pointer (some ⟨b, 0, none⟩), .pointer (some ⟨rb, 0, none⟩)], ckM ga v va f (W.drop k), qcM gb v (.slice pq W.length cq) f W k] wr)) (fun iv _ => 14 - (intOf iv).toNat)
      case atStart => exact ⟨0, 0, false, va, A2, by omega, rfl, HPr, HV, L1⟩
      case round =>
        clear L1 HV HPr
        obtain ⟨i, k, f, va, A3, hi14, rfl, HPr, HV, L0⟩ := hrel
        have hkl := HPr.out.1
        obtain ⟨D, hD⟩ : ∃ D, dn f W k = D := ⟨_, rfl⟩
        have HD := Lib.hid hD
        have hd1 := x_doneL (i := 1) L0.out.drew rfl hkl HD
        by_cases hlt : i < 14
        · have hltI : (i : Int) < 14 := by omega
          obtain ⟨k1, k2, k3, k4, k5, d, hac⟩ := acS_ex f W k (A3 2)
          obtain ⟨f', hf'⟩ : ∃ f', nF v f W k (A3 2) = f' := ⟨_, rfl⟩
          obtain ⟨k', hk'⟩ : ∃ k', nK f W k = k' := ⟨_, rfl⟩
          have HPr2 : Hid (Pr f' W k' (i + 1)) := Lib.hid (by rw [← hf', ← hk']; exact pr_next HPr.out)
          have hs1 : ∀ w4, Lo wa lo hi b rb q6 A3 A3 [bx gp TP #[.pointer (some ⟨b, 0, none⟩), .pointer (some ⟨rb, 0, none⟩)], ckM ga v va f (W.drop k), qcM gb v (.slice pq W.length cq) f W k] w4 → Calls _ _ _ _ _ := fun w4 h => x_step (i := 1) h rfl HOK.out hkl (vb_ok HV.out (by decide)) (Lib.hid hac) (Lib.hid hf') (Lib.hid hk')
          have hs2 : ∀ w4 vx, Lo wa lo hi b rb q6 A3 A3 [bx gp TP #[.pointer (some ⟨b, 0, none⟩), .pointer (some ⟨rb, 0, none⟩)], ckM ga v vx f' (W.drop k'), qcM gb v (.slice pq W.length cq) f W k] w4 → Calls _ _ _ _ _ := fun w4 vx h => y_step (i := 2) h rfl HOK.out hkl (vb_ok HV.out (by decide)) (Lib.hid hac) (Lib.hid hf') (Lib.hid hk')
          have hd2 : ∀ w4, Lo wa lo hi b rb q6 A3 A3 [bx gp TP #[.pointer (some ⟨b, 0, none⟩), .pointer (some ⟨rb, 0, none⟩)], ckM ga v va f (W.drop k), qcM gb v (.slice pq W.length cq) f W k] w4 → Calls _ _ _ _ _ := fun w4 h => y_doneL (i := 2) h rfl HD
          have hfa : ∀ w4, Lo wa lo hi b rb q6 A3 A3 [bx gp TP #[.pointer (some ⟨b, 0, none⟩), .pointer (some ⟨rb, 0, none⟩)], ckM ga v va f (W.drop k), qcM gb v (.slice pq W.length cq) f W k] w4 → Calls _ _ _ _ _ := fun w4 h => x_failed (i := 1) h rfl
          have hDD : (D != D) = false := by cases D <;> rfl
          have hff : (f != f) = false := by cases f <;> rfl
          clear hac hf' hk' hD
          go_upto_region 16 with (fail)
          go_cut [81] (fun gv wc => gv = .bool false ∧ ∃ vx, Hid (Lo wa lo hi b rb q6 A3 A3 [bx gp TP #[.pointer (some ⟨b, 0, none⟩), .pointer (some ⟨rb, 0, none⟩)], ckM ga v vx f' (W.drop k'), qcM gb v (.slice pq W.length cq) f' W k'] wc))
          case first =>
            first | go_region_law (first
            | (go_simp; go_at_call 35; (with_reducible refine hd1.mono ?_); rintro e w5 ⟨rfl, hL5⟩)
            | (go_simp; go_at_call 36; (with_reducible refine (hd2 _ hL5).mono ?_); rintro e w6 ⟨rfl, hL6⟩; have q0 := y_cell (i := 2) hL6 rfl; have q1 := hL6.c 0 0 rfl rfl; have q2 := hL6.c 0 1 rfl rfl)
            | (go_simp; go_at_call 37; (with_reducible refine (hfa _ hL6).mono ?_); rintro e w7 ⟨rfl, rfl⟩)
            | (go_simp; go_at_call 38; (with_reducible refine (hs1 _ hL6).mono ?_); rintro e w8 ⟨rfl, vx, hL8⟩; have hs2 := hs2 _ _ hL8; have q3 := hL8.c 0 0 rfl rfl; have q4 := hL8.c 0 1 rfl rfl)
            | (go_simp; go_at_call 39; (with_reducible refine hs2.mono ?_); rintro e w9 ⟨rfl, hL9⟩; have q5 := hL9.c 0 0 rfl rfl; have q6 := hL9.c 0 1 rfl rfl)
            | (go_simp; go_at_call 28; (with_reducible refine (lo_same hL9).mono ?_); rintro e w10 ⟨rfl, hL10⟩)) | fail
            all_goals go_wp2_with fail
            all_goals go_meet
            all_goals exact ⟨rfl, _, Lib.hid hL10⟩
          case rest =>
            obtain ⟨rfl, vx, L1⟩ := hcut
            clear hs1 hs2 hd1 hd2 hfa hDD hff L0 HD
            have hat := k_at c3 HZ3.out (below_trans2 HB1.out L1.out.old) i
            go_upto_region 19 with (go_at_call 20; (with_reducible refine hat.mono ?_); rintro e w3 ⟨y, rfl, rfl⟩)
            go_cut [104] (fun gv w' => gv = .bool false ∧ ∃ A4, Hid (VB 260 (A4 2)) ∧ Hid (Lo wa lo hi b rb q6 A4 A4 [bx gp TP #[.pointer (some ⟨b, 0, none⟩), .pointer (some ⟨rb, 0, none⟩)], ckM ga v vx f' (W.drop k'), qcM gb v (.slice pq W.length cq) f' W k'] w'))
            case first =>
              by_cases hn : i < n3
              · have hnI : (i : Int) < n3 := by omega
                by_cases hz : y.tmod 2 = 0
                · have hzb : (y.tmod 2 == 0) = true := by simpa using hz
                  have hkk : ∀ (W0 : World) (A : Int → List Int), Lo wa lo hi b rb q6 A A [bx gp TP #[.pointer (some ⟨b, 0, none⟩), .pointer (some ⟨rb, 0, none⟩)], ckM ga v vx f' (W.drop k'), qcM gb v (.slice pq W.length cq) f' W k'] W0 → (fun W : World => W.cell? ⟨gp, 0, none⟩ = some (.pointer (some ⟨b, 0, none⟩)) ∧ W.cell? ⟨gp, 1, none⟩ = some (.pointer (some ⟨rb, 0, none⟩))) W0 := fun W0 A h => ⟨h.c 0 0 rfl rfl, h.c 0 1 rfl rfl⟩
                  have hs0 : (fun W : World => W.cell? ⟨gp, 0, none⟩ = some (.pointer (some ⟨b, 0, none⟩)) ∧ W.cell? ⟨gp, 1, none⟩ = some (.pointer (some ⟨rb, 0, none⟩))) wc.drew := hkk _ _ L1.out.drew
                  have hse := fun (u : Int) (u0 : 0 ≤ u) (u1 : u ≤ 6 - 1) x => lo_setI L1.out.drew u u0 (by rw [HV.out.1]; omega) x
                  clear hz
                  go_region_held3 (fun W : World => W.cell? ⟨gp, 0, none⟩ = some (.pointer (some ⟨b, 0, none⟩)) ∧ W.cell? ⟨gp, 1, none⟩ = some (.pointer (some ⟨rb, 0, none⟩))) (first | (with_reducible exact hs0) | (with_reducible assumption)) (first
                  | (go_at_call 11; (with_reducible refine (k_place_ex _ _ (by decide) (by decide) _).mono ?_); rintro e w4 ⟨u, u0, u1, rfl, rfl⟩; have hse := hse u u0 u1)
                  | (go_at_call 31; (with_reducible refine (l_word_ex _ _).mono ?_); rintro e w5 ⟨x, x0, x1, rfl, rfl⟩)
                  | (go_at_call 18; (with_reducible refine (hse _).mono ?_); rintro e w6 ⟨rfl, hL⟩; have hk1 := hkk _ _ hL))
                  have HV2 : Hid (VB 260 (upd A3 2 u.toNat x 2)) := Lib.hid (by rw [upd2]; exact vb_set HV.out (by omega) x0 x1)
                  all_goals go_wp2_with fail
                  all_goals go_meet
                  all_goals exact ⟨rfl, _, HV2, Lib.hid hL⟩
                · have hzb : (y.tmod 2 == 0) = false := by simpa using hz
                  clear hz
                  go_quiet (fail)
                  all_goals go_wp2_with fail
                  all_goals go_meet
                  all_goals exact ⟨rfl, _, HV, Lib.hid (L1.out.drewN _)⟩
              · have hnI : decide ((i : Int) < n3) = false := decide_eq_false (by omega)
                go_quiet (fail)
                all_goals go_wp2_with fail
                all_goals go_meet
                all_goals exact ⟨rfl, _, HV, Lib.hid (L1.out.drewN _)⟩
            case rest =>
              clear L1 HV hat
              obtain ⟨rfl, A4, HV2, L2⟩ := hcut
              go_wp2_with fail
              go_roundw
              case rel => exact ⟨i + 1, k', f', vx, A4, by omega, by go_num, HPr2, HV2, L2⟩
              case measure => (first | (simp [intOf]; omega) | simp [intOf])
        · have hge2 : (14 : Int) ≤ i := by omega
          obtain rfl : true = D := by rw [← hD]; exact (pr_end HPr.out (by have := HOK.out.few; omega)).symm
          clear hD HD hlt hi14
          have hfe : (f == f) = true := by cases f <;> rfl
          have hfa : ∀ w4, Lo wa lo hi b rb q6 A3 A3 [bx gp TP #[.pointer (some ⟨b, 0, none⟩), .pointer (some ⟨rb, 0, none⟩)], ckM ga v va f (W.drop k), qcM gb v (.slice pq W.length cq) f W k] w4 → w4.cell? ⟨gb, 3, none⟩ = some (.bool f) ∧ Calls _ _ _ _ _ := fun w4 h => ⟨y_cell (i := 2) h rfl, x_failed (i := 1) h rfl⟩
          have hs0 : (fun W : World => W.cell? ⟨gb, 3, none⟩ = some (.bool f)) wr.drew := y_cell (i := 2) L0.out.drew rfl
          have hkk : ∀ (W0 W1 : World), Lo wa lo hi b rb q6 A3 A3 [bx gp TP #[.pointer (some ⟨b, 0, none⟩), .pointer (some ⟨rb, 0, none⟩)], ckM ga v va f (W.drop k), qcM gb v (.slice pq W.length cq) f W k] W0 → Below W0.heap.size W0 W1 → (fun W : World => W.cell? ⟨gb, 3, none⟩ = some (.bool f)) W1 := fun W0 W1 h k => y_cell (i := 2) (h.below k) rfl
          go_upto_region 21 with (fail)
          go_region_held3 (fun W : World => W.cell? ⟨gb, 3, none⟩ = some (.bool f)) (first | (with_reducible exact hs0) | (with_reducible assumption)) (first
          | (go_at_call 35; (with_reducible refine hd1.mono ?_); rintro e w4 ⟨rfl, hL4⟩; obtain ⟨q0, hfa⟩ := hfa _ hL4)
          | (go_at_call 37; (with_reducible refine hfa.mono ?_); rintro e w5 ⟨rfl, rfl⟩)
          | (go_at_call 40; (with_reducible refine (l_awake _).mono ?_); rintro e wz ⟨rfl, hbz⟩; have hk1 := hkk _ _ hL4 hbz))
          have HF := Lib.hid (below_trans2 HB1.out (below_trans2 hL4.old hbz))
          clear hs0 hkk hk1 hd1 hfa hbz hL4 q0 L0
          go_wp2_with fail
          go_ret
          exact ⟨rfl, .of_below HF.out⟩

/-! The row's step. -/
set_option maxRecDepth 100000 in
theorem lifted (os : Os) (started : os.Started) (H : Type) (enc : TypeId × Value → H) :
    ReturnsInHanded {} Try.checked os 5 .any (Rows.validatorFollowsSpec.pre6 enc Try.prog Try.f5 Rows.validatorFollowsRow.domain false) (Rows.validatorFollowsSpec.post enc Try.prog Try.f5 false true false false) := by
  refine returnsInHanded_of_change (C := Try.checked) own started (by kernel_rfl) Try.func5
    (ChangeSpec.witness6 (enc := enc) (C := Try.checked) false ⟨#[], #[.slice none 0 0, .int .i64 0, .slice none 0 0, .slice none 0 0], []⟩ 8 (by kernel_rfl) (by kernel_rfl) (by kernel_rfl) (by kernel_rfl)) ?_
  intro W base args ds gs before hval0 hW hcnd _
  have hval : ∀ (j : Nat) t v, Try.f5.params[j]? = some t → args[j]? = some v → Value.okWide Try.prog W .any base t v := hval0
  have hW' := hW
  obtain ⟨p, q, hA0, hV, rfl, hfz, hnd⟩ := hW
  have hA : DataW.TrodAll enc Try.prog W 0 (fun _ => true) true Try.f5.params.toList args.toList ds p := hA0
  rw [Try.params5] at hA hval
  obtain ⟨v0, vs0, d0, ds0, p0, q0, hargs, rfl, rfl, h0, r0⟩ := trodAll_cons hA
  obtain ⟨v1, vs1, d1, ds1, p1, q1, rfl, rfl, rfl, h1, r1⟩ := trodAll_cons r0
  obtain ⟨v2, vs2, d2, ds2, p2, q2, rfl, rfl, rfl, h2, r2⟩ := trodAll_cons r1
  obtain ⟨v3, vs3, d3, ds3, p3, q3, rfl, rfl, rfl, h3, r3⟩ := trodAll_cons r2
  obtain ⟨rfl, rfl, rfl⟩ := trodAll_nil r3
  obtain rfl : args = #[v0, v1, v2, v3] := by cases args; simp_all
  obtain ⟨rfl, rfl⟩ := trodVars_none hV
  have hk : ∀ W', Kept W W' → Rows.validatorFollowsSpec.post enc Try.prog Try.f5 false true false false W #[v0, v1, v2, v3] (.bool true) W' := fun W' hb =>
    post_law laidOut readable rfl Try.underlying4 rfl hW' rfl hb
  clear hA0 hval0 hA hW'
  obtain ⟨A0, n0, c0, z0, rfl, l0, m0, s0⟩ := open_slice Try.underlying47 Try.underlying3 cells3 (hval 0 47 v0 rfl rfl) h0
  obtain ⟨a1, rfl, rfl, rfl, w1⟩ := open_int Try.underlying3 (hval 1 3 v1 rfl rfl) h1
  obtain ⟨A2, n2, c2, z2, rfl, l2, m2, s2⟩ := open_slice Try.underlying47 Try.underlying3 cells3 (hval 2 47 v2 rfl rfl) h2
  obtain ⟨A3, n3, c3, z3, rfl, l3, m3, s3⟩ := open_slice Try.underlying47 Try.underlying3 cells3 (hval 3 47 v3 rfl rfl) h3
  refine (walk W A0 n0 c0 z0 l0 m0 s0 a1 w1 A2 n2 c2 z2 l2 m2 s2 A3 n3 c3 z3 l3 m3 s3).mono fun e W' ⟨he, hg⟩ => ?_
  subst he
  exact ⟨_, rfl, hk W' hg⟩

theorem over : Rows.validatorFollowsRow.holds Try.pinned (OpenSpec.ofChange Rows.validatorFollowsSpec) :=
  OpenClaim.holds_of_wide 5 Try.f5 rfl rfl rfl rfl rfl rfl rfl ⟨rfl, rfl, rfl, rfl, rfl⟩ rfl rfl rfl rfl rfl (by kernel_rfl) Try.func5 (by kernel_rfl)
    (of_decide_eq_true (by kernel_rfl)) (by unfold Func.isWrapper; first | (rw [if_pos (by decide +kernel)]; kernel_rfl) | (rw [if_neg (by decide +kernel)]; exact ⟨rfl, rfl⟩))
    (fun os started H enc _ => lifted os started H enc)

/-- The statement. -/
theorem proved : Rows.ValidatorFollowsSaid :=
  over
#print axioms proved
end Go.Proofs.Ytdegclfbnldgaaa.validatorFollows
