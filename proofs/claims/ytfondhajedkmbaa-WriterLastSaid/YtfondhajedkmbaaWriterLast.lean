/-
  Proved: after a writeback each address has the last one of its values, and no other word has changed. No condition.
-/
import Derived.Test.YtfondhajedkmbaaRows
import Derived.WalkKit
import Derived.ProofKit
import Derived.OpenShut
import Derived.Test.YtfondhajedkmbaaFrame
import Derived.Test.YtfondhajedkmbaaWrL
import Derived.Test.YtfondhajedkmbaaLayO
import Derived.Deep.RegionHeld3
import Derived.Deep.RegionLaw
import Derived.Deep.Cut
import Derived.Deep.DeepCutAuto
import Derived.Deep.CutBlock
import Derived.BigQuiet
import Derived.BigRegion
import Derived.Deep.QuietTactic
namespace Go.Proofs.Ytfondhajedkmbaa.writerLast
open Go.ChangeShapes Go.WideShapes Go.ChangeAt Go.RowKit
open LawFrame
open Go.ChangeMaps (open_string)
set_option linter.unusedVariables false

theorem own : ownKnob Try.prog.godebug = none := by kernel_rfl
theorem laidOut : laidOutB Try.prog = true := by kernel_rfl
theorem cells29 : Try.prog.cellsOf 29 = 1 := by kernel_rfl
theorem cells3 : Try.prog.cellsOf 3 = 1 := by kernel_rfl

open LawFrame PlainT BlkW LayS LayA LayH LayK LayP CelS CelM CelP CelV CelN CelO CelQ CelF CelB LabD LabR LabP LabS LabX LabN CelLo RsA ObjA ClnA WrA WrB WrL
set_option maxHeartbeats 20000000
set_option maxRecDepth 400000

theorem readable : ∀ t ∈ Try.f6.params.toList, Try.prog.readableRec t = true ∧ t < Try.prog.types.size := by
  have h : (Try.f6.params.toList.all fun t => Try.prog.readableRec t && decide (t < Try.prog.types.size)) = true := by kernel_rfl
  intro t ht
  have := List.all_eq_true.1 h t ht
  simpa using this

/-! The walk. -/
theorem walk (w : World) (A0 : Option Addr) (n0 c0 : Nat) (z0 : List Int) (l0 : n0 ≤ c0) (m0 : c0 ≤ maxLen) (s0 : Ints .i64 w A0 n0 z0) (A1 : Option Addr) (n1 c1 : Nat) (z1 : List Int) (l1 : n1 ≤ c1) (m1 : c1 ≤ maxLen) (s1 : Ints .u64 w A1 n1 z1) :
    Calls Try.prog 6 #[.slice A0 n0 c0, .slice A1 n1 c1] w fun e w' => e = .returned (.bool true) ∧ Kept w w' := by
  obtain ⟨W, hW12, hW7, hWc⟩ := l_addrs s0 c0
  have HOK : Hid (LOk W) := Lib.hid ⟨by omega, hW7⟩
  have HWc := Lib.hid hWc
  have HZ1 := Lib.hid s1
  clear s1
  clear hW7 hWc s0 l0 m0
  go_enter Try.func6, Try.ntmps6
  go_upto_region 2 with (first
    | (go_at_call 29; (with_reducible refine (l_config17 _).mono ?_); rintro e wa ⟨rfl, hb1⟩)
    | (go_at_call 28; (with_reducible refine (start_eight 2 2 rfl (by decide) (by decide) _).mono ?_); rintro e w2 ⟨A, lo, hi, b, rb, rfl, hst⟩))
  have L0 : Hid (Lo wa lo hi b rb q8 A A [] w2) := Lib.hid (Lo.begunN hst)
  have HA : Hid (One A) := Lib.hid (begun_eight hst)
  have HB1 := Lib.hid hb1
  clear hst hb1
  have L1 := Lib.hid (L0.out.new TP #[.pointer (some ⟨b, 0, none⟩), .pointer (some ⟨rb, 0, none⟩)])
  obtain ⟨gp, hn⟩ : ∃ gp, w2.heap.size = gp := ⟨_, rfl⟩
  rw [hn] at L1
  first | rw [hn] | skip
  clear hn
  obtain ⟨W1, hW⟩ : ∃ W', w2.alloc (.cells #[.pointer (some ⟨b, 0, none⟩), .pointer (some ⟨rb, 0, none⟩)] TP) = W' := ⟨_, rfl⟩
  rw [hW] at L1
  first | rw [hW] | skip
  clear hW
  have L1 : Hid (Lo wa lo hi b rb q8 A A [bx gp TP #[.pointer (some ⟨b, 0, none⟩), .pointer (some ⟨rb, 0, none⟩)]] W1) := L1
  clear L0
  by_cases hv : n1 ≤ 20
  · have hvI : (n1 : Int) ≤ 20 := by omega
    obtain ⟨m, hm⟩ : ∃ m, min W.length n1 = m := ⟨_, rfl⟩
    have hB := below_trans2 HB1.out L1.out.old
    have hwa1 := HWc.out W1 hB
    go_upto_region 5 with (go_at_call 32; (with_reducible refine hwa1.mono ?_); rintro e w3 ⟨pw, cw, rfl, how, hbw⟩)
    have L2 : Hid (Lo wa lo hi b rb q8 A A [bx gp TP #[.pointer (some ⟨b, 0, none⟩), .pointer (some ⟨rb, 0, none⟩)], rd .i64 (.slice pw W.length cw) W] w3) := Lib.hid (L1.out.add hbw (o := rd .i64 (.slice pw W.length cw) W) (rdr_own how) fun x hx => (World.ownsRow.lt how x (blk_mem hx)).1)
    clear hwa1 how hbw hB L1 HWc
    have hnew := x_new L2.out pw A1 W.length n1 cw c1 m W z1 (L2.out.is 1 _ rfl : RdR .i64 w3 (.slice pw W.length cw) W).slice (rds_ints HZ1.out l1 m1 (below_trans2 HB1.out L2.out.old)) hm (by omega)
    go_upto_region 6 with (go_at_call 31; (with_reducible refine hnew.mono ?_); rintro e w4 ⟨ga, v1, v2, rfl, hL4⟩)
    have hxm : (W.take m).length = m := by rw [List.length_take]; omega
    have hym : (z1.take m).length = m := by rw [List.length_take, HZ1.out.1]; omega
    have HVA : Hid (VA wa A1 (z1.take m) m) := Lib.hid (va_ints HZ1.out HB1.out (by omega))
    have HOX : Hid (LOk (W.take m)) := Lib.hid (HOK.out.take m)
    have hm12 : m ≤ 12 := by omega
    have hmW : m ≤ W.length := by omega
    have hmn : m ≤ n1 := by omega
    have hmin : (if n1 < W.length then (n1 : Int) else (W.length : Int)) = (m : Int) := by split <;> omega
    obtain ⟨xs, hxs⟩ : ∃ xs, W.take m = xs := ⟨_, rfl⟩
    obtain ⟨ys, hys⟩ : ∃ ys, z1.take m = ys := ⟨_, rfl⟩
    have HXS := Lib.hid hxs
    rw [hxs] at hL4 hxm HOX
    rw [hys] at hL4 hym HVA
    have HXM := Lib.hid hxm
    have HYM := Lib.hid hym
    have L3 : Hid (Lo wa lo hi b rb q8 A A [bx gp TP #[.pointer (some ⟨b, 0, none⟩), .pointer (some ⟨rb, 0, none⟩)], rd .i64 (.slice pw W.length cw) W, wM ga v1 v2 (xs.drop 0) (ys.drop 0)] w4) := Lib.hid hL4
    clear hL4 hnew hxs hys hxm hym hm L2 HZ1 hv hvI
    obtain ⟨gd, cd, hdat⟩ := L3.out.lb.data
    have hd13 := (hdat 0 (by rw [HA.out.1]; decide)).1
    rw [HA.out.1] at hd13
    have hrd : Rd w4 (.slice (some ⟨gd, 0, none⟩) 8 cd) (A 1) := ⟨_, cd, by rw [HA.out.1], fun j x hj => ⟨gd, 0, rfl, by
      have hl := (List.getElem?_eq_some_iff.1 hj).1
      rw [Nat.zero_add, (hdat j hl).2, List.getD_eq_getElem?_getD, hj]
      rfl⟩⟩
    have htw := k_twinw w4 (some ⟨gd, 0, none⟩) 8 cd (A 1) hrd HA.out.1 (by decide)
    clear hdat hrd
    have c3_0_1 : w4.cell? ⟨gp, 1, none⟩ = some (.pointer (some ⟨rb, 0, none⟩)) := L3.out.c 0 1 rfl rfl
    go_upto_region 9 with (go_at_call 39; (with_reducible refine htw.mono ?_); rintro e w5 ⟨pt, ct, rfl, hot, hbt⟩)
    obtain ⟨V0, hV0⟩ : ∃ V0, A 1 = V0 := ⟨_, rfl⟩
    have h8 : V0.length = 8 := by rw [← hV0]; exact HA.out.1
    rw [hV0] at hot
    have HV0 := Lib.hid hV0
    have H8 := Lib.hid h8
    have hb0 := Lo.asBox (i := 3) (L3.out.add hbt (o := ObjA.own .u64 TU (.slice pt 8 ct) V0) (own_low (B := w4.heap.size) (by rw [h8]; exact hot) : World.ownsRow w5 0 TU 1 (.slice pt 8 ct) V0.length (V0.map (Value.int .u64))) fun x hx => (World.ownsRow.lt hot x (blk_mem hx)).1) rfl (by omega)
    obtain ⟨gt, ct2, cur, he, hc8, hcm, hag, hL5⟩ := hb0
    injection he with he1 he2 he3
    subst he1 he3
    clear he2
    rw [h8] at hc8
    have L4 : Hid (Lo wa lo hi b rb q8 A A [bx gp TP #[.pointer (some ⟨b, 0, none⟩), .pointer (some ⟨rb, 0, none⟩)], rd .i64 (.slice pw W.length cw) W, wM ga v1 v2 (xs.drop 0) (ys.drop 0), bx gt TU cur] w5) := Lib.hid hL5
    have HAg : Hid (Agr .u64 cur (wrt V0 xs ys 0)) := Lib.hid hag
    clear hL5 hag hot hbt htw hd13 hV0 h8 L3 c3_0_1
    go_wp2_with fail
    go_loopw [11] (fun iv wr => ∃ (j : Nat) (cur : Array Value), j ≤ m ∧ iv = .int .i64 j ∧ Hid (Agr .u64 cur (wrt V0 xs ys j)) ∧ Hid (Lo wa lo hi b rb q8 A A [bx gp TP #[.pointer (some ⟨b, 0, none⟩), .pointer (some ⟨rb, 0, none⟩)], rd .i64 (.slice pw W.length cw) W, wM ga v1 v2 (xs.drop 0) (ys.drop 0), bx gt TU cur] wr)) (fun iv _ => m - (intOf iv).toNat)
    case atStart => exact ⟨0, cur, by omega, rfl, HAg, L4⟩
    case round =>
      clear L4 HAg
      obtain ⟨j, cur, hjm, rfl, HAg, L0⟩ := hrel
      by_cases hlt : j < m
      · have hltI : (j : Int) < m := by omega
        have hj1 : (j : Int) < W.length := by omega
        have hj2 : (j : Int) < n1 := by omega
        have hj0 : (0 : Int) ≤ j := by omega
        obtain ⟨hat, ho8⟩ := HOX.out.at_ (k := j) (by rw [HXM.out]; exact hlt)
        obtain ⟨gv, ov, rfl, hvw⟩ := HVA.out j hlt
        have r2 := hvw _ L0.out.old
        obtain ⟨gl, ol, c, hsl, _, _, hcl⟩ := RdR.cell (L0.out.is 1 _ rfl) (by omega)
        injection hsl with hp1 _ hp3
        subst hp1 hp3
        have hatW : W[j]? = some (wO xs j : Int) := by rw [← hat, ← HXS.out, List.getElem?_take, if_pos hlt]
        have r1 := hcl j _ hatW
        obtain ⟨o, ho⟩ : ∃ o, wO xs j = o := ⟨_, rfl⟩
        obtain ⟨y, hy⟩ : ∃ y, wY ys j = y := ⟨_, rfl⟩
        have HAg2 : Hid (Agr .u64 (cur.setIfInBounds o (.int .u64 y)) (wrt V0 xs ys (j + 1))) := Lib.hid (by rw [← ho, ← hy]; exact agr_set HAg.out _ _)
        rw [ho] at r1 ho8
        rw [hy] at r2
        have ho0 : (0 : Int) ≤ o := by omega
        have hoI : (o : Int) < 8 := by omega
        have hl8 : o < (wrt V0 xs ys j).length := by rw [wrt_len, H8.out]; exact ho8
        have r3 : wr.cell? ⟨gt, o, none⟩ = some (.int .u64 ((wrt V0 xs ys j)[o]'hl8)) := (L0.out.box 3 rfl).2.cell o |>.trans (HAg.out o _ (List.getElem?_eq_getElem hl8))
        have z3 : wr.frozen? ⟨gt, o, none⟩ = false := L0.out.z 3 o rfl
        obtain ⟨x, hx⟩ : ∃ x, (wrt V0 xs ys j)[o]'hl8 = x := ⟨_, rfl⟩
        rw [hx] at r3
        have LF : Hid (Lo wa lo hi b rb q8 A A [bx gp TP #[.pointer (some ⟨b, 0, none⟩), .pointer (some ⟨rb, 0, none⟩)], rd .i64 (.slice (some ⟨gl, ol, none⟩) W.length cw) W, wM ga v1 v2 (xs.drop 0) (ys.drop 0), bx gt TU (cur.setIfInBounds o (.int .u64 y))] ((wr.setCell ⟨gt, o, none⟩ (.int .u64 y)).drew)) := Lib.hid (Lo.drew (L0.out.put 3 o (.int .u64 y) rfl))
        clear hx hl8 hat hatW hcl hvw ho hy HAg L0
        go_upto_region 13 with fail
        go_region
        all_goals
          go_wp2_with fail
          go_roundw
          case rel => exact ⟨j + 1, _, by omega, by go_num, HAg2, LF⟩
          case measure => (first | (simp [intOf]; omega) | simp [intOf])
      · obtain rfl : j = m := by omega
        clear hlt hjm
        go_wp2_with fail
        go_loopw [12] (fun iv wr => ∃ (k : Nat) (v1 v2 : Value) (A3 : Int → List Int), k ≤ j ∧ iv = .int .i64 k ∧ Hid (One A3) ∧ Hid (A3 1 = wrt V0 xs ys k) ∧ Hid (Lo wa lo hi b rb q8 A3 A [bx gp TP #[.pointer (some ⟨b, 0, none⟩), .pointer (some ⟨rb, 0, none⟩)], rd .i64 (.slice pw W.length cw) W, wM ga v1 v2 (xs.drop k) (ys.drop k), bx gt TU cur] wr)) (fun iv _ => j - (intOf iv).toNat)
        case atStart => exact ⟨0, v1, v2, A, by omega, rfl, HA, HV0, L0⟩
        case round =>
          clear L0 HA HV0
          obtain ⟨k, v1, v2, A3, hkj, rfl, HA, HV, L0⟩ := hrel
          by_cases hlt : k < j
          · have hkI : (k : Int) < 20 := by omega
            have hd := x_done (i := 2) L0.out rfl (D := false) (Lib.hid (decide_eq_false (by rw [List.length_drop, HXM.out]; omega)))
            have hst := x_go (i := 2) L0.out rfl HOX.out (by rw [HYM.out, HXM.out]) (by rw [HXM.out]; exact hlt) HA.out.1
            have HA2 : Hid (One (upd A3 1 (wO xs k) (wY ys k))) := Lib.hid (one_upd HA.out)
            have HV2 : Hid ((upd A3 1 (wO xs k) (wY ys k)) 1 = wrt V0 xs ys (k + 1)) := Lib.hid (by rw [upd1, HV.out]; rfl)
            obtain ⟨A', hA'⟩ : ∃ A', upd A3 1 (wO xs k) (wY ys k) = A' := ⟨_, rfl⟩
            rw [hA'] at HA2 HV2 hst
            obtain ⟨o, ho⟩ : ∃ o, wO xs k = o := ⟨_, rfl⟩
            obtain ⟨y, hy⟩ : ∃ y, wY ys k = y := ⟨_, rfl⟩
            obtain ⟨x, hx⟩ : ∃ x, (A3 1).getD (wO xs k) 0 = x := ⟨_, rfl⟩
            rw [hx, ho, hy] at hst
            clear hA' ho hy hx
            have q0 := L0.out.c 0 0 rfl rfl
            go_upto_region 17 with (first
          | (go_at_call 34; (with_reducible refine hd.mono ?_); rintro e w5 ⟨rfl, rfl⟩)
          | (go_at_call 37; (with_reducible refine hst.mono ?_); rintro e w6 ⟨rfl, x1, x2, hL6⟩))
            have L1 : Hid (Lo wa lo hi b rb q8 A' A [bx gp TP #[.pointer (some ⟨b, 0, none⟩), .pointer (some ⟨rb, 0, none⟩)], rd .i64 (.slice pw W.length cw) W, wM ga x1 x2 (xs.drop (k + 1)) (ys.drop (k + 1)), bx gt TU cur] w6) := Lib.hid hL6
            clear hL6 hst hd q0 L0 HA HV
            go_wp2_with fail
            go_roundw
            case rel => exact ⟨k + 1, x1, x2, A', by omega, by go_num, HA2, HV2, L1⟩
            case measure => (first | (simp [intOf]; omega) | simp [intOf])
          · obtain rfl : k = j := by omega
            clear hlt hkj
            have hd := x_done (i := 2) L0.out rfl (D := true) (Lib.hid (decide_eq_true (by rw [List.length_drop, HXM.out]; omega)))
            obtain ⟨V, hV⟩ : ∃ V, wrt V0 xs ys k = V := ⟨_, rfl⟩
            have hV8 : V.length = 8 := by rw [← hV, wrt_len]; exact H8.out
            have hA1 := HV.out
            rw [hV] at hA1 HAg
            clear hV HV
            have him := lo_image8 L0.out hA1 hV8 HA.out.2
            have q0 := L0.out.c 0 0 rfl rfl
            have hwd : ∀ (w4 : World) (gi oi ci : Nat), Lo wa lo hi b rb q8 A3 A [bx gp TP #[.pointer (some ⟨b, 0, none⟩), .pointer (some ⟨rb, 0, none⟩)], rd .i64 (.slice pw W.length cw) W, wM ga v1 v2 (xs.drop k) (ys.drop k), bx gt TU cur] w4 → (∀ j x, V[j]? = some x → w4.cell? ⟨gi, oi + j, none⟩ = some (.int .u64 x)) → Calls Try.prog 40 #[.slice (some ⟨gi, oi, none⟩) 8 ci, .slice (some ⟨gt, 0, none⟩) 8 ct] w4 _ := fun w4 gi oi ci h hci => k_words w4 _ _ V ⟨_, ci, by rw [hV8], fun j x hj => ⟨gi, oi, rfl, hci j x hj⟩⟩ ⟨_, ct, by rw [hV8], fun j x hj => ⟨gt, 0, rfl, by rw [Nat.zero_add, (h.box 3 rfl).2.cell]; exact HAg.out j x hj⟩⟩ (by omega)
            have hkb : decide ((k : Int) < 20) = true := decide_eq_true (by omega)
            go_wp2_with (first
          | (go_at_call 34; (with_reducible refine hd.mono ?_); rintro e w5 ⟨rfl, rfl⟩)
          | (go_at_call 15; (with_reducible refine him.mono ?_); rintro e wi ⟨ic, it, is, gi, oi, ci, vo, vl, vh, vn, rfl, hci, hL⟩; have hfd := fld_data (.slice (some ⟨gi, oi, none⟩) 8 ci) vo vl vh vn ic it is; have hwd := hwd _ _ _ ci hL hci)
          | (go_at_call 40; (with_reducible refine hwd.mono ?_); rintro e w6 ⟨rfl, nw, rfl⟩)
          | (go_at_call 30; (with_reducible refine (l_awake _).mono ?_); rintro e wz ⟨rfl, hbz⟩))
            have HF := Lib.hid (below_trans2 HB1.out (below_trans2 (hL.drewN nw).old hbz))
            clear hbz hL hci hwd him hd hfd q0 L0
            go_ret
            exact ⟨rfl, .of_below HF.out⟩
  · have hvI : (20 : Int) < n1 := by omega
    clear hv
    have HB := Lib.hid (below_trans2 HB1.out L1.out.old)
    clear L1 HZ1
    go_wp2_with (go_at_call 30; (with_reducible refine (l_awake _).mono ?_); rintro e wz ⟨rfl, hbz⟩)
    have HF := Lib.hid (below_trans2 HB.out hbz)
    clear hbz
    go_ret
    exact ⟨rfl, .of_below HF.out⟩

/-! The row's step. -/
set_option maxRecDepth 100000 in
theorem lifted (os : Os) (started : os.Started) (H : Type) (enc : TypeId × Value → H) :
    ReturnsInHanded {} Try.checked os 6 .any (Rows.writerLastSpec.pre6 enc Try.prog Try.f6 Rows.writerLastRow.domain false) (Rows.writerLastSpec.post enc Try.prog Try.f6 false true false false) := by
  refine returnsInHanded_of_change (C := Try.checked) own started (by kernel_rfl) Try.func6
    (ChangeSpec.witness6 (enc := enc) (C := Try.checked) false ⟨#[], #[.slice none 0 0, .slice none 0 0], []⟩ 8 (by kernel_rfl) (by kernel_rfl) (by kernel_rfl) (by kernel_rfl)) ?_
  intro W base args ds gs before hval0 hW hcnd _
  have hval : ∀ (j : Nat) t v, Try.f6.params[j]? = some t → args[j]? = some v → Value.okWide Try.prog W .any base t v := hval0
  have hW' := hW
  obtain ⟨p, q, hA0, hV, rfl, hfz, hnd⟩ := hW
  have hA : DataW.TrodAll enc Try.prog W 0 (fun _ => true) true Try.f6.params.toList args.toList ds p := hA0
  rw [Try.params6] at hA hval
  obtain ⟨v0, vs0, d0, ds0, p0, q0, hargs, rfl, rfl, h0, r0⟩ := trodAll_cons hA
  obtain ⟨v1, vs1, d1, ds1, p1, q1, rfl, rfl, rfl, h1, r1⟩ := trodAll_cons r0
  obtain ⟨rfl, rfl, rfl⟩ := trodAll_nil r1
  obtain rfl : args = #[v0, v1] := by cases args; simp_all
  obtain ⟨rfl, rfl⟩ := trodVars_none hV
  have hk : ∀ W', Kept W W' → Rows.writerLastSpec.post enc Try.prog Try.f6 false true false false W #[v0, v1] (.bool true) W' := fun W' hb =>
    post_law laidOut readable rfl Try.underlying4 rfl hW' rfl hb
  clear hA0 hval0 hA hW'
  obtain ⟨A0, n0, c0, z0, rfl, l0, m0, s0⟩ := open_slice Try.underlying47 Try.underlying3 cells3 (hval 0 47 v0 rfl rfl) h0
  obtain ⟨A1, n1, c1, z1, rfl, l1, m1, s1⟩ := open_slice Try.underlying37 Try.underlying29 cells29 (hval 1 37 v1 rfl rfl) h1
  refine (walk W A0 n0 c0 z0 l0 m0 s0 A1 n1 c1 z1 l1 m1 s1).mono fun e W' ⟨he, hg⟩ => ?_
  subst he
  exact ⟨_, rfl, hk W' hg⟩

theorem over : Rows.writerLastRow.holds Try.pinned (OpenSpec.ofChange Rows.writerLastSpec) :=
  OpenClaim.holds_of_wide 6 Try.f6 rfl rfl rfl rfl rfl rfl rfl ⟨rfl, rfl, rfl, rfl, rfl⟩ rfl rfl rfl rfl rfl (by kernel_rfl) Try.func6 (by kernel_rfl)
    (of_decide_eq_true (by kernel_rfl)) (by unfold Func.isWrapper; first | (rw [if_pos (by decide +kernel)]; kernel_rfl) | (rw [if_neg (by decide +kernel)]; exact ⟨rfl, rfl⟩))
    (fun os started H enc _ => lifted os started H enc)

/-- The statement. -/
theorem proved : Rows.WriterLastSaid :=
  over
#print axioms proved
end Go.Proofs.Ytfondhajedkmbaa.writerLast
