/-
  Proved: a writeback makes the operations of the document, step by step, also with lists of different lengths. No condition.
-/
import Derived.Test.YtfondhajedkmbaaRows
import Derived.WalkKit
import Derived.ProofKit
import Derived.OpenShut
import Derived.Test.YtfondhajedkmbaaFrame
import Derived.Test.YtfondhajedkmbaaWrL
import Derived.Test.YtfondhajedkmbaaLayO
import Derived.Deep.RegionHeld3
import Derived.Deep.RegionLaw
import Derived.Deep.Cut
import Derived.Deep.DeepCutAuto
import Derived.Deep.CutBlock
import Derived.BigQuiet
import Derived.BigRegion
import Derived.Deep.QuietTactic
namespace Go.Proofs.Ytfondhajedkmbaa.writerFollows
open Go.ChangeShapes Go.WideShapes Go.ChangeAt Go.RowKit
open LawFrame
open Go.ChangeMaps (open_string)
set_option linter.unusedVariables false

theorem own : ownKnob Try.prog.godebug = none := by kernel_rfl
theorem laidOut : laidOutB Try.prog = true := by kernel_rfl
theorem cells29 : Try.prog.cellsOf 29 = 1 := by kernel_rfl
theorem cells3 : Try.prog.cellsOf 3 = 1 := by kernel_rfl

open LawFrame PlainT BlkW LayS LayA LayH LayK LayP CelS CelM CelP CelV CelN CelO CelQ CelF CelB LabD LabR LabP LabS LabX LabN CelLo RsA ObjA ClnA WrA WrB WrL
set_option maxHeartbeats 20000000
set_option maxRecDepth 400000

theorem readable : ∀ t ∈ Try.f5.params.toList, Try.prog.readableRec t = true ∧ t < Try.prog.types.size := by
  have h : (Try.f5.params.toList.all fun t => Try.prog.readableRec t && decide (t < Try.prog.types.size)) = true := by kernel_rfl
  intro t ht
  have := List.all_eq_true.1 h t ht
  simpa using this

/-! The walk. -/
theorem walk (w : World) (A0 : Option Addr) (n0 c0 : Nat) (z0 : List Int) (l0 : n0 ≤ c0) (m0 : c0 ≤ maxLen) (s0 : Ints .i64 w A0 n0 z0) (A1 : Option Addr) (n1 c1 : Nat) (z1 : List Int) (l1 : n1 ≤ c1) (m1 : c1 ≤ maxLen) (s1 : Ints .u64 w A1 n1 z1) :
    Calls Try.prog 5 #[.slice A0 n0 c0, .slice A1 n1 c1] w fun e w' => e = .returned (.bool true) ∧ Kept w w' := by
  obtain ⟨W, hW12, hW7, hWc⟩ := l_addrs s0 c0
  have HOK : Hid (LOk W) := Lib.hid ⟨by omega, hW7⟩
  have HWc := Lib.hid hWc
  have HZ1 := Lib.hid s1
  clear s1
  clear hW7 hWc s0 l0 m0
  go_enter Try.func5, Try.ntmps5
  go_upto_region 2 with (first
    | (go_at_call 29; (with_reducible refine (l_config17 _).mono ?_); rintro e wa ⟨rfl, hb1⟩)
    | (go_at_call 28; (with_reducible refine (start_eight 2 2 rfl (by decide) (by decide) _).mono ?_); rintro e w2 ⟨A, lo, hi, b, rb, rfl, hst⟩))
  have L0 : Hid (Lo wa lo hi b rb q8 A A [] w2) := Lib.hid (Lo.begunN hst)
  have HA : Hid (One A) := Lib.hid (begun_eight hst)
  have HB1 := Lib.hid hb1
  clear hst hb1
  have L1 := Lib.hid (L0.out.new TP #[.pointer (some ⟨b, 0, none⟩), .pointer (some ⟨rb, 0, none⟩)])
  obtain ⟨gp, hn⟩ : ∃ gp, w2.heap.size = gp := ⟨_, rfl⟩
  rw [hn] at L1
  first | rw [hn] | skip
  clear hn
  obtain ⟨W1, hW⟩ : ∃ W', w2.alloc (.cells #[.pointer (some ⟨b, 0, none⟩), .pointer (some ⟨rb, 0, none⟩)] TP) = W' := ⟨_, rfl⟩
  rw [hW] at L1
  first | rw [hW] | skip
  clear hW
  have L1 : Hid (Lo wa lo hi b rb q8 A A [bx gp TP #[.pointer (some ⟨b, 0, none⟩), .pointer (some ⟨rb, 0, none⟩)]] W1) := L1
  clear L0
  by_cases hv : n1 ≤ 20
  · have hvI : (n1 : Int) ≤ 20 := by omega
    obtain ⟨m, hm⟩ : ∃ m, min W.length n1 = m := ⟨_, rfl⟩
    have hB := below_trans2 HB1.out L1.out.old
    have hwa1 := HWc.out W1 hB
    have hnl1 : ∀ w2 p c, Below W1.heap.size W1 w2 → RdS .i64 w2 (.slice p W.length c) W → Calls _ _ _ _ _ := fun w2 p c hb hr => x_new (L1.out.below hb) p A1 W.length n1 c c1 m W z1 hr (rds_ints HZ1.out l1 m1 (below_trans2 hB hb)) hm (by omega)
    have hwa2 : ∀ (w4 : World) (ex : List Ob), Lo wa lo hi b rb q8 A A ex w4 → Calls _ _ _ w4 _ := fun w4 ex h => HWc.out w4 (below_trans2 HB1.out h.old)
    have hnl2 : ∀ (w4 : World) (ex : List Ob), Lo wa lo hi b rb q8 A A ex w4 → ∀ w5 p c, Below w4.heap.size w4 w5 → w5.ownsRow w4.heap.size TI 1 (.slice p W.length c) W.length (W.map (Value.int .i64)) → Calls _ _ _ _ _ := fun w4 ex h w5 p c hb ho => y_new (p2 := A1) (h.add hb (o := rd .i64 (.slice p W.length c) W) (rdr_own ho) fun x hx => (World.ownsRow.lt ho x (blk_mem hx)).1) rfl hm l1
    go_upto_region 5 with (first
      | (go_at_call 32; (with_reducible refine hwa1.mono ?_); rintro e w3 ⟨pw, cw, rfl, how, hbw⟩; have hnl1 := hnl1 _ _ _ hbw (rdr_own how).slice)
      | (go_at_call 31; (with_reducible refine hnl1.mono ?_); rintro e w4 ⟨ga, v1, v2, rfl, hL4⟩; have hwa2 := hwa2 _ _ hL4; have hnl2 := hnl2 _ _ hL4)
      | (go_at_call 32; (with_reducible refine hwa2.mono ?_); rintro e w5 ⟨pq, cq, rfl, hoq, hbq⟩; have hnl2 := hnl2 _ _ _ hbq hoq)
      | (go_at_call 33; (with_reducible refine hnl2.mono ?_); rintro e w6 ⟨gb, rfl, hL6⟩))
    have hxm : (W.take m).length = m := by rw [List.length_take]; omega
    have hym : (z1.take m).length = m := by rw [List.length_take, HZ1.out.1]; omega
    have HVA : VA wa A1 (z1.take m) m := va_ints HZ1.out HB1.out (by omega)
    have HOX : Hid (LOk (W.take m)) := Lib.hid (HOK.out.take m)
    have hm12 : m ≤ 12 := by omega
    obtain ⟨xs, hxs⟩ : ∃ xs, W.take m = xs := ⟨_, rfl⟩
    obtain ⟨ys, hys⟩ : ∃ ys, z1.take m = ys := ⟨_, rfl⟩
    have hL7 := hL6
    rw [hxs] at hL7 hxm HOX
    rw [hys] at hL7 hym HVA
    rw [← hxm] at hL7 hym HVA hm12
    have L2 : Hid (Lo wa lo hi b rb q8 A A [bx gp TP #[.pointer (some ⟨b, 0, none⟩), .pointer (some ⟨rb, 0, none⟩)], wM ga v1 v2 (xs.drop 0) (ys.drop 0), sM gb (.slice pq xs.length cq) (.slice A1 xs.length c1) xs 0] w6) := Lib.hid hL7
    have HXY := Lib.hid hym
    have HVA := Lib.hid HVA
    clear hL7 hL6 hL4 hnl1 hnl2 hwa1 hwa2 how hoq hbw hbq hB hxs hys hym hxm hm L1 HZ1 HOK HWc hv hvI hW12
    go_wp2_with fail
    go_loopw [9] (fun iv wr => ∃ (i k : Nat) (v1 v2 : Value) (A3 : Int → List Int), i ≤ 14 ∧ iv = .int .i64 i ∧ k = min i xs.length ∧ Hid (One A3) ∧ Hid (Lo wa lo hi b rb q8 A3 A3 [bx gp TP #[.pointer (some ⟨b, 0, none⟩), .pointer (some ⟨rb, 0, none⟩)], wM ga v1 v2 (xs.drop k) (ys.drop k), sM gb (.slice pq xs.length cq) (.slice A1 xs.length c1) xs k] wr)) (fun iv _ => 14 - (intOf iv).toNat)
    case atStart => exact ⟨0, 0, v1, v2, A, by omega, rfl, by omega, HA, L2⟩
    case round =>
      clear L2 HA
      obtain ⟨i, k, v1, v2, A3, hi14, rfl, hk, HA, L0⟩ := hrel
      have hkl : k ≤ xs.length := by omega
      by_cases hlt : i < 14
      · have hltI : (i : Int) < 14 := by omega
        obtain ⟨D, hD⟩ : ∃ D, decide (k = xs.length) = D := ⟨_, rfl⟩
        have hD1 : decide ((xs.drop k).length = 0) = D := by rw [← hD, List.length_drop]; exact decide_eq_decide.2 (by omega)
        have HD := Lib.hid hD
        have HD1 := Lib.hid hD1
        clear hD hD1
        obtain ⟨z, hz⟩ : ∃ z : Int, ((xs.drop k).length : Int) = z := ⟨_, rfl⟩
        have HZ := Lib.hid hz
        have hzs : (xs.length : Int) - k = z := by rw [← hz, List.length_drop]; omega
        have hzr : 0 ≤ z ∧ z ≤ 12 := by omega
        clear hz
        have hsub : wrap64 ((xs.length : Int) - k) = z := (IntWalk.wrap64_in _ (by omega)).trans hzs
        have hsub2 : IntKind.i64.wrap ((xs.length : Int) - k) = z := (IntWalk.i64_in _ (by omega)).trans hzs
        clear hzs hzr
        obtain ⟨k1, k2, k3, k4, k5, d, hac⟩ := acW_ex xs ys k (A3 1)
        obtain ⟨A', hA'⟩ : ∃ A', nA A3 xs ys k = A' := ⟨_, rfl⟩
        obtain ⟨k', hk'⟩ : ∃ k', nK xs k = k' := ⟨_, rfl⟩
        have HA2 : Hid (One A') := Lib.hid (by rw [← hA']; exact one_nA HA.out)
        have HK2 : Hid (k' = min (i + 1) xs.length) := Lib.hid (by rw [← hk']; exact nK_min hk)
        have hd1 := x_done (i := 1) L0.out.drew rfl HD1
        have hd2 : ∀ w4, Lo wa lo hi b rb q8 A3 A3 [bx gp TP #[.pointer (some ⟨b, 0, none⟩), .pointer (some ⟨rb, 0, none⟩)], wM ga v1 v2 (xs.drop k) (ys.drop k), sM gb (.slice pq xs.length cq) (.slice A1 xs.length c1) xs k] w4 → Calls _ _ _ _ _ := fun w4 h => y_done (i := 2) h rfl HD
        have hq : ∀ w4, Lo wa lo hi b rb q8 A3 A3 [bx gp TP #[.pointer (some ⟨b, 0, none⟩), .pointer (some ⟨rb, 0, none⟩)], wM ga v1 v2 (xs.drop k) (ys.drop k), sM gb (.slice pq xs.length cq) (.slice A1 xs.length c1) xs k] w4 → (w4.cell? ⟨gb, 1, none⟩ = some (.slice pq xs.length cq) ∧ w4.cell? ⟨gb, 3, none⟩ = some (.int .i64 k)) ∧ w4.cell? ⟨gp, 0, none⟩ = some (.pointer (some ⟨b, 0, none⟩)) ∧ w4.cell? ⟨gp, 1, none⟩ = some (.pointer (some ⟨rb, 0, none⟩)) := fun w4 h => ⟨y_cells (i := 2) h rfl, h.c 0 0 rfl rfl, h.c 0 1 rfl rfl⟩
        have hle : ∀ w4, Lo wa lo hi b rb q8 A3 A3 [bx gp TP #[.pointer (some ⟨b, 0, none⟩), .pointer (some ⟨rb, 0, none⟩)], wM ga v1 v2 (xs.drop k) (ys.drop k), sM gb (.slice pq xs.length cq) (.slice A1 xs.length c1) xs k] w4 → Calls _ _ _ _ _ := fun w4 h => x_left (i := 1) h rfl HZ
        have hs1 : ∀ w4, Lo wa lo hi b rb q8 A3 A3 [bx gp TP #[.pointer (some ⟨b, 0, none⟩), .pointer (some ⟨rb, 0, none⟩)], wM ga v1 v2 (xs.drop k) (ys.drop k), sM gb (.slice pq xs.length cq) (.slice A1 xs.length c1) xs k] w4 → Calls _ _ _ _ _ := fun w4 h => x_step (i := 1) h rfl HOX.out HXY.out hkl HA.out.1 (Lib.hid hac) (Lib.hid hA') (Lib.hid hk')
        have hs2 : ∀ w4 x1 x2, Lo wa lo hi b rb q8 A' A3 [bx gp TP #[.pointer (some ⟨b, 0, none⟩), .pointer (some ⟨rb, 0, none⟩)], wM ga x1 x2 (xs.drop k') (ys.drop k'), sM gb (.slice pq xs.length cq) (.slice A1 xs.length c1) xs k] w4 → (w4.cell? ⟨gp, 0, none⟩ = some (.pointer (some ⟨b, 0, none⟩)) ∧ w4.cell? ⟨gp, 1, none⟩ = some (.pointer (some ⟨rb, 0, none⟩))) ∧ Calls _ _ _ _ _ := fun w4 x1 x2 h => ⟨⟨h.c 0 0 rfl rfl, h.c 0 1 rfl rfl⟩, y_step (i := 2) h rfl HOX.out HVA.out hkl HA.out.1 (Lib.hid hac) (Lib.hid hA') (Lib.hid hk')⟩
        have hDD : (D != D) = false := by cases D <;> rfl
        have hzz : (z != z) = false := by simp
        clear hac hA' hk' hk
        have L0d := Lib.hid L0.out.drew
        go_upto_region 10 with (fail)
        go_cut [75] (fun gv wc => gv = .bool false ∧ ∃ x1 x2, Hid (Lo wa lo hi b rb q8 A' A' [bx gp TP #[.pointer (some ⟨b, 0, none⟩), .pointer (some ⟨rb, 0, none⟩)], wM ga x1 x2 (xs.drop k') (ys.drop k'), sM gb (.slice pq xs.length cq) (.slice A1 xs.length c1) xs k'] wc))
        case first =>
          first | go_region_law (first
            | (go_simp; go_at_call 34; (with_reducible refine hd1.mono ?_); rintro e w5 ⟨rfl, rfl⟩; have hd2 := hd2 _ L0d.out)
            | (go_simp; go_at_call 35; (with_reducible refine hd2.mono ?_); rintro e w6 ⟨rfl, hL6⟩; obtain ⟨⟨q0, q1⟩, q2, q3⟩ := hq _ hL6; have hle := hle _ hL6; have hs1 := hs1 _ hL6)
            | (go_simp; go_at_call 36; (with_reducible refine hle.mono ?_); rintro e w7 ⟨rfl, rfl⟩)
            | (go_simp; go_at_call 37; (with_reducible refine hs1.mono ?_); rintro e w8 ⟨rfl, x1, x2, hL8⟩; obtain ⟨⟨q4, q5⟩, hs2⟩ := hs2 _ _ _ hL8)
            | (go_simp; go_at_call 38; (with_reducible refine hs2.mono ?_); rintro e w9 ⟨rfl, hL9⟩; have q6 := hL9.c 0 0 rfl rfl; have q7 := hL9.c 0 1 rfl rfl)
            | (go_simp; go_at_call 27; (with_reducible refine (lo_same hL9).mono ?_); rintro e w10 ⟨rfl, hL10⟩)) | fail
          all_goals go_wp2_with fail
          all_goals go_meet
          all_goals exact ⟨rfl, _, _, Lib.hid hL10⟩
        case rest =>
          obtain ⟨rfl, x1, x2, L2⟩ := hcut
          clear hs1 hs2 hd1 hd2 hle hq hDD hzz hsub hsub2 L0 L0d HD HD1 HZ HA
          go_wp2_with fail
          go_roundw
          case rel => exact ⟨i + 1, k', x1, x2, A', by omega, by go_num, HK2.out, HA2, L2⟩
          case measure => (first | (simp [intOf]; omega) | simp [intOf])
      · have hge : (14 : Int) ≤ i := by omega
        have HB := Lib.hid (below_trans2 HB1.out L0.out.old)
        clear L0 HA hlt hk hi14 HVA HOX HXY
        go_wp2_with (go_at_call 30; (with_reducible refine (l_awake _).mono ?_); rintro e wz ⟨rfl, hbz⟩)
        have HF := Lib.hid (below_trans2 HB.out hbz)
        clear hbz
        go_ret
        exact ⟨rfl, .of_below HF.out⟩
  · have hvI : (20 : Int) < n1 := by omega
    clear hv
    have HB := Lib.hid (below_trans2 HB1.out L1.out.old)
    clear L1 HZ1
    go_wp2_with (go_at_call 30; (with_reducible refine (l_awake _).mono ?_); rintro e wz ⟨rfl, hbz⟩)
    have HF := Lib.hid (below_trans2 HB.out hbz)
    clear hbz
    go_ret
    exact ⟨rfl, .of_below HF.out⟩

/-! The row's step. -/
set_option maxRecDepth 100000 in
theorem lifted (os : Os) (started : os.Started) (H : Type) (enc : TypeId × Value → H) :
    ReturnsInHanded {} Try.checked os 5 .any (Rows.writerFollowsSpec.pre6 enc Try.prog Try.f5 Rows.writerFollowsRow.domain false) (Rows.writerFollowsSpec.post enc Try.prog Try.f5 false true false false) := by
  refine returnsInHanded_of_change (C := Try.checked) own started (by kernel_rfl) Try.func5
    (ChangeSpec.witness6 (enc := enc) (C := Try.checked) false ⟨#[], #[.slice none 0 0, .slice none 0 0], []⟩ 8 (by kernel_rfl) (by kernel_rfl) (by kernel_rfl) (by kernel_rfl)) ?_
  intro W base args ds gs before hval0 hW hcnd _
  have hval : ∀ (j : Nat) t v, Try.f5.params[j]? = some t → args[j]? = some v → Value.okWide Try.prog W .any base t v := hval0
  have hW' := hW
  obtain ⟨p, q, hA0, hV, rfl, hfz, hnd⟩ := hW
  have hA : DataW.TrodAll enc Try.prog W 0 (fun _ => true) true Try.f5.params.toList args.toList ds p := hA0
  rw [Try.params5] at hA hval
  obtain ⟨v0, vs0, d0, ds0, p0, q0, hargs, rfl, rfl, h0, r0⟩ := trodAll_cons hA
  obtain ⟨v1, vs1, d1, ds1, p1, q1, rfl, rfl, rfl, h1, r1⟩ := trodAll_cons r0
  obtain ⟨rfl, rfl, rfl⟩ := trodAll_nil r1
  obtain rfl : args = #[v0, v1] := by cases args; simp_all
  obtain ⟨rfl, rfl⟩ := trodVars_none hV
  have hk : ∀ W', Kept W W' → Rows.writerFollowsSpec.post enc Try.prog Try.f5 false true false false W #[v0, v1] (.bool true) W' := fun W' hb =>
    post_law laidOut readable rfl Try.underlying4 rfl hW' rfl hb
  clear hA0 hval0 hA hW'
  obtain ⟨A0, n0, c0, z0, rfl, l0, m0, s0⟩ := open_slice Try.underlying47 Try.underlying3 cells3 (hval 0 47 v0 rfl rfl) h0
  obtain ⟨A1, n1, c1, z1, rfl, l1, m1, s1⟩ := open_slice Try.underlying37 Try.underlying29 cells29 (hval 1 37 v1 rfl rfl) h1
  refine (walk W A0 n0 c0 z0 l0 m0 s0 A1 n1 c1 z1 l1 m1 s1).mono fun e W' ⟨he, hg⟩ => ?_
  subst he
  exact ⟨_, rfl, hk W' hg⟩

theorem over : Rows.writerFollowsRow.holds Try.pinned (OpenSpec.ofChange Rows.writerFollowsSpec) :=
  OpenClaim.holds_of_wide 5 Try.f5 rfl rfl rfl rfl rfl rfl rfl ⟨rfl, rfl, rfl, rfl, rfl⟩ rfl rfl rfl rfl rfl (by kernel_rfl) Try.func5 (by kernel_rfl)
    (of_decide_eq_true (by kernel_rfl)) (by unfold Func.isWrapper; first | (rw [if_pos (by decide +kernel)]; kernel_rfl) | (rw [if_neg (by decide +kernel)]; exact ⟨rfl, rfl⟩))
    (fun os started H enc _ => lifted os started H enc)

/-- The statement. -/
theorem proved : Rows.WriterFollowsSaid :=
  over
#print axioms proved
end Go.Proofs.Ytfondhajedkmbaa.writerFollows
