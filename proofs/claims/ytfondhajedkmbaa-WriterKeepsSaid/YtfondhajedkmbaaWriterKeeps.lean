/-
  Proved: a writeback keeps copies of its lists, and one without entries has finished at once and makes no step. No condition.
-/
import Derived.Test.YtfondhajedkmbaaRows
import Derived.WalkKit
import Derived.ProofKit
import Derived.OpenShut
import Derived.Test.YtfondhajedkmbaaFrame
import Derived.Test.YtfondhajedkmbaaWrL
import Derived.Test.YtfondhajedkmbaaLayO
import Derived.Deep.RegionHeld3
import Derived.Deep.RegionLaw
import Derived.Deep.Cut
import Derived.Deep.DeepCutAuto
import Derived.Deep.CutBlock
import Derived.BigQuiet
import Derived.BigRegion
import Derived.Deep.QuietTactic
namespace Go.Proofs.Ytfondhajedkmbaa.writerKeeps
open Go.ChangeShapes Go.WideShapes Go.ChangeAt Go.RowKit
open LawFrame
open Go.ChangeMaps (open_string)
set_option linter.unusedVariables false

theorem own : ownKnob Try.prog.godebug = none := by kernel_rfl
theorem laidOut : laidOutB Try.prog = true := by kernel_rfl
theorem cells3 : Try.prog.cellsOf 3 = 1 := by kernel_rfl

open LawFrame PlainT BlkW LayS LayA LayH LayK LayP CelS CelM CelP CelV CelN CelO CelQ CelF CelB LabD LabR LabP LabS LabX LabN CelLo RsA ObjA ClnA WrA WrB WrL
set_option maxHeartbeats 20000000
set_option maxRecDepth 400000

theorem readable : ∀ t ∈ Try.f7.params.toList, Try.prog.readableRec t = true ∧ t < Try.prog.types.size := by
  have h : (Try.f7.params.toList.all fun t => Try.prog.readableRec t && decide (t < Try.prog.types.size)) = true := by kernel_rfl
  intro t ht
  have := List.all_eq_true.1 h t ht
  simpa using this

/-! The walk. -/
theorem walk (w : World) (A0 : Option Addr) (n0 c0 : Nat) (z0 : List Int) (l0 : n0 ≤ c0) (m0 : c0 ≤ maxLen) (s0 : Ints .i64 w A0 n0 z0) (a1 : Int) (w1 : (Lit.int .u64 a1).wf = true) :
    Calls Try.prog 7 #[.slice A0 n0 c0, .int .u64 a1] w fun e w' => e = .returned (.bool true) ∧ Kept w w' := by
  obtain ⟨W, hW12, hW7, hWc⟩ := l_addrs s0 c0
  have HOK : Hid (LOk W) := Lib.hid ⟨by omega, hW7⟩
  have HWc := Lib.hid hWc
  clear w1
  clear hW7 hWc s0 l0 m0
  go_enter Try.func7, Try.ntmps7
  go_upto_region 2 with (first
    | (go_at_call 29; (with_reducible refine (l_config17 _).mono ?_); rintro e wa ⟨rfl, hb1⟩)
    | (go_at_call 28; (with_reducible refine (start_eight 2 2 rfl (by decide) (by decide) _).mono ?_); rintro e w2 ⟨A, lo, hi, b, rb, rfl, hst⟩))
  have L0 : Hid (Lo wa lo hi b rb q8 A A [] w2) := Lib.hid (Lo.begunN hst)
  have HA : Hid (One A) := Lib.hid (begun_eight hst)
  have HB1 := Lib.hid hb1
  clear hst hb1
  have L1 := Lib.hid (L0.out.new TP #[.pointer (some ⟨b, 0, none⟩), .pointer (some ⟨rb, 0, none⟩)])
  obtain ⟨gp, hn⟩ : ∃ gp, w2.heap.size = gp := ⟨_, rfl⟩
  rw [hn] at L1
  first | rw [hn] | skip
  clear hn
  obtain ⟨W1, hW⟩ : ∃ W', w2.alloc (.cells #[.pointer (some ⟨b, 0, none⟩), .pointer (some ⟨rb, 0, none⟩)] TP) = W' := ⟨_, rfl⟩
  rw [hW] at L1
  first | rw [hW] | skip
  clear hW
  have L1 : Hid (Lo wa lo hi b rb q8 A A [bx gp TP #[.pointer (some ⟨b, 0, none⟩), .pointer (some ⟨rb, 0, none⟩)]] W1) := L1
  clear L0
  have hB := below_trans2 HB1.out L1.out.old
  have hwa1 := HWc.out W1 hB
  obtain ⟨n, hn⟩ : ∃ n, W.length + 1 = n := ⟨_, rfl⟩
  have hn13 : n ≤ 13 := by omega
  have hn1 : 1 ≤ n := by omega
  have happ : ∀ (wb w3 : World) (p : Option Addr) (c : Nat), Below wb.heap.size wb w3 → OwnI w3 wb.heap.size (.slice p W.length c) W → ∃ A c2 w4, (Builtin.append_ #[47, 47] 47 #[.slice p W.length c, .slice (some ⟨w3.heap.size, 0, none⟩) 1 1]).run Try.prog (w3.alloc (.cells #[.int .i64 5] TI)) = .ok (.slice A n c2) w4 ∧ w4.ownsRow wb.heap.size TI 1 (.slice A n c2) n ((W ++ [5]).map (Value.int .i64)) ∧ Below wb.heap.size wb w4 := fun wb w3 p c hb ho => by
    obtain ⟨A2, c2, w4, hrun, hown, hbel, _, _⟩ := push_i (B := wb.heap.size) hb.size ho (by omega) 5
    rw [hn] at hrun
    refine ⟨A2, c2, w4, hrun, ?_, hb.trans hbel⟩
    unfold OwnI isV at hown
    rw [List.length_append] at hown
    rw [hn] at hown
    have e : W.length + [(5 : Int)].length = n := hn
    rw [e] at hown
    exact hown
  have HAPP := Lib.hid happ
  clear happ
  go_upto_region 5 with (first
    | (go_at_call 32; (with_reducible refine hwa1.mono ?_); rintro e w3 ⟨pw, cw, rfl, how, hbw⟩; obtain ⟨Al, cl, w4, hrun, hol, hbl⟩ := HAPP.out _ _ _ _ hbw how)
    | (at_builtin; refine wpList_append_run rfl _ _ _ rfl hrun (by rfl) (by rfl) ?_))
  obtain ⟨X, hX⟩ : ∃ X, W ++ [(5 : Int)] = X := ⟨_, rfl⟩
  have hXl : X.length = n := by rw [← hX, List.length_append]; exact hn
  have HOX : Hid (LOk X) := Lib.hid ⟨by omega, fun x hx => by
    rw [← hX] at hx
    rcases List.mem_append.1 hx with hx | hx
    · exact HOK.out.inS x hx
    · simp at hx
      omega⟩
  have HX := Lib.hid hX
  rw [hX] at hol
  have HXl := Lib.hid hXl
  have hb0 := Lo.asBox (i := 1) (L1.out.add hbl (o := ObjA.own .i64 TI (.slice Al n cl) X) (own_low (B := W1.heap.size) (by rw [hXl]; exact hol) : World.ownsRow w4 0 TI 1 (.slice Al n cl) X.length (X.map (Value.int .i64))) fun x hx => (World.ownsRow.lt hol x (blk_mem hx)).1) rfl (by omega)
  obtain ⟨gl, cl2, cur, he, hc8, hcm, hag, hL5⟩ := hb0
  injection he with he1 he2 he3
  subst he1 he3
  clear he2
  rw [hXl] at hc8
  have L2 : Hid (Lo wa lo hi b rb q8 A A [bx gp TP #[.pointer (some ⟨b, 0, none⟩), .pointer (some ⟨rb, 0, none⟩)], bx gl TI cur] w4) := Lib.hid hL5
  have HAg : Hid (Agr .i64 cur X) := Lib.hid hag
  clear hL5 hag hol hbl hrun how hbw hwa1 hB hX hXl L1 hn hW12
  have hmk := fun wx => make_row wx n (by omega)
  go_upto_region 6 with fail
  have L3 := Lib.hid (L2.out.new TU (U (List.replicate n 0)))
  obtain ⟨gv, hgn⟩ : ∃ gv, w4.heap.size = gv := ⟨_, rfl⟩
  rw [hgn] at L3
  first | rw [hgn] | skip
  clear hgn
  obtain ⟨w5, hW⟩ : ∃ W', w4.alloc (.cells (U (List.replicate n 0)) TU) = W' := ⟨_, rfl⟩
  rw [hW] at L3
  first | rw [hW] | skip
  clear hW hmk
  have L3 : Hid (Lo wa lo hi b rb q8 A A [bx gp TP #[.pointer (some ⟨b, 0, none⟩), .pointer (some ⟨rb, 0, none⟩)], bx gl TI cur, bx gv TU (U (List.replicate n 0))] w5) := L3
  clear L2
  go_wp2_with fail
  go_loopw [9] (fun iv wr => ∃ (j : Nat) (V : List Int), j ≤ n ∧ iv = .int .i64 j ∧ Hid (V.length = n ∧ ∀ t, t < j → V[t]? = some a1) ∧ Hid (Lo wa lo hi b rb q8 A A [bx gp TP #[.pointer (some ⟨b, 0, none⟩), .pointer (some ⟨rb, 0, none⟩)], bx gl TI cur, bx gv TU (U V)] wr)) (fun iv _ => n - (intOf iv).toNat)
  case atStart => exact ⟨0, List.replicate n 0, by omega, rfl, Lib.hid ⟨List.length_replicate, fun t ht => absurd ht (by omega)⟩, L3⟩
  case round =>
    clear L3
    obtain ⟨j, V, hjn, rfl, HV, L0⟩ := hrel
    by_cases hlt : j < n
    · have hltI : (j : Int) < n := by omega
      have hl : j < V.length := by rw [HV.out.1]; exact hlt
      have r0 : wr.cell? ⟨gv, j, none⟩ = some (.int .u64 (V[j]'hl)) := ((L0.out.box 2 rfl).2.cell j).trans (by unfold U; rw [List.getElem?_toArray, List.getElem?_map, List.getElem?_eq_getElem hl]; rfl)
      obtain ⟨x, hx⟩ : ∃ x, V[j]'hl = x := ⟨_, rfl⟩
      rw [hx] at r0
      have z0 : wr.frozen? ⟨gv, j, none⟩ = false := L0.out.z 2 j rfl
      have HV2 : Hid ((V.set j a1).length = n ∧ ∀ t, t < j + 1 → (V.set j a1)[t]? = some a1) := Lib.hid ⟨by rw [List.length_set]; exact HV.out.1, fun t ht => by
        rw [List.getElem?_set]
        by_cases e : j = t
        · rw [if_pos e, if_pos (by omega)]
        · rw [if_neg e]
          exact HV.out.2 t (by omega)⟩
      have hput := L0.out.put 2 j (.int .u64 a1) rfl
      have hU : (U V).setIfInBounds j (.int .u64 a1) = U (V.set j a1) := by unfold U; rw [List.map_set, List.setIfInBounds_toArray]
      rw [hU] at hput
      have L1 : Hid (Lo wa lo hi b rb q8 A A [bx gp TP #[.pointer (some ⟨b, 0, none⟩), .pointer (some ⟨rb, 0, none⟩)], bx gl TI cur, bx gv TU (U (V.set j a1))] ((wr.setCell ⟨gv, j, none⟩ (.int .u64 a1)))) := Lib.hid hput
      clear hput hU hx hl L0 HV
      go_wp2_with fail
      go_roundw
      case rel => exact ⟨j + 1, _, by omega, by go_num, HV2, L1⟩
      case measure => (first | (simp [intOf]; omega) | simp [intOf])
    · obtain rfl : j = n := by omega
      clear hlt hjn
      have hagV : Agr .u64 (U V) V := fun t x hx => by unfold U; rw [List.getElem?_toArray, List.getElem?_map, hx]; rfl
      have hX0 := (HOX.out.at_ (k := 0) (by rw [HXl.out]; omega)).1
      obtain ⟨o, ho⟩ : ∃ o, wO X 0 = o := ⟨_, rfl⟩
      have HO := Lib.hid ho
      rw [ho] at hX0
      have ho7 : (o : Int) + 1 ≤ 8 := by have := (HOX.out.at_ (k := 0) (by rw [HXl.out]; omega)).2; omega
      have hY0 : wY V 0 = a1 := by unfold wY; rw [List.getD_eq_getElem?_getD, HV.out.2 0 (by omega)]; rfl
      have HY := Lib.hid hY0
      have HX0 := Lib.hid hX0
      have HVA := Lib.hid hagV
      have hn1 := x_new L0.out (some ⟨gl, 0, none⟩) (some ⟨gv, 0, none⟩) j j cl j j X V (rds_box (L0.out.box 1 rfl).2 HAg.out HXl.out hc8 hcm) (rds_box (L0.out.box 2 rfl).2 HVA.out HV.out.1 (Nat.le_refl _) (by unfold maxLen; omega)) (Nat.min_self _) (by omega)
      rw [List.take_of_length_le (by rw [HXl.out]; exact Nat.le_refl _), List.take_of_length_le (by rw [HV.out.1]; exact Nat.le_refl _)] at hn1
      have hn2 : ∀ w6 ga v1 v2, Lo wa lo hi b rb q8 A A [bx gp TP #[.pointer (some ⟨b, 0, none⟩), .pointer (some ⟨rb, 0, none⟩)], bx gl TI cur, bx gv TU (U V), wM ga v1 v2 (X.drop 0) (V.drop 0)] w6 → Calls _ _ _ _ _ := fun w6 ga v1 v2 h => x_new h none (some ⟨gv, 0, none⟩) 0 j 0 j 0 [] V ⟨none, 0, rfl, Nat.le_refl _, Nat.zero_le _, fun t x ht => by simp at ht⟩ (rds_box (h.box 2 rfl).2 HVA.out HV.out.1 (Nat.le_refl _) (by unfold maxLen; omega)) (Nat.zero_min _) (by omega)
      clear hX0 hY0 ho hagV
      go_upto_region 13 with (first
      | (go_at_call 31; (with_reducible refine hn1.mono ?_); rintro e w6 ⟨ga, v1, v2, rfl, hL6⟩; have hn2 := hn2 _ _ _ _ hL6)
      | (go_at_call 31; (with_reducible refine hn2.mono ?_); rintro e w7 ⟨gb, u1, u2, rfl, hL7⟩))
      have L1 : Hid (Lo wa lo hi b rb q8 A A [bx gp TP #[.pointer (some ⟨b, 0, none⟩), .pointer (some ⟨rb, 0, none⟩)], bx gl TI cur, bx gv TU (U V), wM ga v1 v2 (X.drop 0) (V.drop 0), wM gb u1 u2 [] []] w7) := Lib.hid hL7
      clear hL7 hL6 hn1 hn2 L0
      have q0 : w7.cell? ⟨gl, 0, none⟩ = some (.int .i64 o) := ((L1.out.box 1 rfl).2.cell 0).trans (HAg.out 0 _ HX0.out)
      have z0 : w7.frozen? ⟨gl, 0, none⟩ = false := L1.out.z 1 0 rfl
      have q1 : w7.cell? ⟨gv, 0, none⟩ = some (.int .u64 a1) := ((L1.out.box 2 rfl).2.cell 0).trans (HVA.out 0 _ (HV.out.2 0 (by omega)))
      have z1 : w7.frozen? ⟨gv, 0, none⟩ = false := L1.out.z 2 0 rfl
      have hne : gl ≠ gv := fun e => L1.out.nd 1 2 _ _ (by decide) rfl rfl gl (List.mem_singleton.2 rfl) (List.mem_singleton.2 e)
      have hne2 : gv ≠ gl := Ne.symm hne
      have hw1 : wrap64 ((o : Int) + 1) = (o : Int) + 1 := IntWalk.wrap64_in _ (by omega)
      obtain ⟨v', hv'⟩ : ∃ v', IntKind.u64.wrap (a1 + 1) = v' := ⟨_, rfl⟩
      have LF : Hid (Lo wa lo hi b rb q8 A A [bx gp TP #[.pointer (some ⟨b, 0, none⟩), .pointer (some ⟨rb, 0, none⟩)], bx gl TI (cur.setIfInBounds 0 (.int .i64 ((o : Int) + 1))), bx gv TU ((U V).setIfInBounds 0 (.int .u64 v')), wM ga v1 v2 (X.drop 0) (V.drop 0), wM gb u1 u2 [] []] (((w7.setCell ⟨gl, 0, none⟩ (.int .i64 ((o : Int) + 1))).setCell ⟨gv, 0, none⟩ (.int .u64 v')))) := Lib.hid ((L1.out.put 1 0 (.int .i64 ((o : Int) + 1)) rfl).put 2 0 (.int .u64 v') rfl)
      have q1' : (w7.setCell ⟨gl, 0, none⟩ (.int .i64 ((o : Int) + 1))).cell? ⟨gv, 0, none⟩ = some (.int .u64 a1) := ((L1.out.put 1 0 (.int .i64 ((o : Int) + 1)) rfl).c 2 0 rfl ((L1.out.box 2 rfl).2.cell 0 ▸ q1))
      clear L1
      go_upto_region 14 with fail
      obtain ⟨w8, hW⟩ : ∃ W', ((w7.setCell ⟨gl, 0, none⟩ (.int .i64 ((o : Int) + 1))).setCell ⟨gv, 0, none⟩ (.int .u64 v')) = W' := ⟨_, rfl⟩
      rw [hW] at LF
      first | rw [hW] | skip
      clear hW q0 q1 z0 z1 hne hne2 q1'
      obtain ⟨d1, hd1⟩ : ∃ d, cur.setIfInBounds 0 (.int .i64 ((o : Int) + 1)) = d := ⟨_, rfl⟩
      obtain ⟨d2, hd2⟩ : ∃ d, (U V).setIfInBounds 0 (.int .u64 v') = d := ⟨_, rfl⟩
      rw [hd1, hd2] at LF
      clear hd1 hd2 hw1 hv'
      have L1 : Hid (Lo wa lo hi b rb q8 A A [bx gp TP #[.pointer (some ⟨b, 0, none⟩), .pointer (some ⟨rb, 0, none⟩)], bx gl TI d1, bx gv TU d2, wM ga v1 v2 (X.drop 0) (V.drop 0), wM gb u1 u2 [] []] w8) := LF
      clear LF
      have hst := x_go (i := 3) (k := 0) L1.out rfl HOX.out (by rw [HV.out.1, HXl.out]) (by rw [HXl.out]; omega) HA.out.1
      obtain ⟨A', hA'⟩ : ∃ A', upd A 1 (wO X 0) (wY V 0) = A' := ⟨_, rfl⟩
      obtain ⟨x, hx⟩ : ∃ x, (A 1).getD (wO X 0) 0 = x := ⟨_, rfl⟩
      rw [hA', hx, HO.out, HY.out] at hst
      clear hA' hx
      have q0 := L1.out.c 0 0 rfl rfl
      go_upto_region 15 with (go_at_call 37; (with_reducible refine hst.mono ?_); rintro e w9 ⟨rfl, x1, x2, hL9⟩)
      have L2 : Hid (Lo wa lo hi b rb q8 A' A [bx gp TP #[.pointer (some ⟨b, 0, none⟩), .pointer (some ⟨rb, 0, none⟩)], bx gl TI d1, bx gv TU d2, wM ga x1 x2 (X.drop (0 + 1)) (V.drop (0 + 1)), wM gb u1 u2 [] []] w9) := Lib.hid hL9
      clear hL9 hst q0 L1
      have L3 := Lib.hid (L2.out.new 62 #[.int .i64 2, .int .i64 1, .int .i64 o, .int .u64 x, .int .u64 a1, .bool true])
      obtain ⟨gx, hn⟩ : ∃ gx, w9.heap.size = gx := ⟨_, rfl⟩
      rw [hn] at L3
      first | rw [hn] | skip
      clear hn
      obtain ⟨W3, hW⟩ : ∃ W', w9.alloc (.cells #[.int .i64 2, .int .i64 1, .int .i64 o, .int .u64 x, .int .u64 a1, .bool true] 62) = W' := ⟨_, rfl⟩
      rw [hW] at L3
      first | rw [hW] | skip
      clear hW
      have L3 : Hid (Lo wa lo hi b rb q8 A' A [bx gp TP #[.pointer (some ⟨b, 0, none⟩), .pointer (some ⟨rb, 0, none⟩)], bx gl TI d1, bx gv TU d2, wM ga x1 x2 (X.drop (0 + 1)) (V.drop (0 + 1)), wM gb u1 u2 [] [], bx gx 62 #[.int .i64 2, .int .i64 1, .int .i64 o, .int .u64 x, .int .u64 a1, .bool true]] W3) := L3
      clear L2
      have hwa1 := HWc.out W3 (below_trans2 HB1.out L3.out.old)
      go_upto_region 16 with (first
      | (go_at_call 32; (with_reducible refine hwa1.mono ?_); rintro e wb ⟨pw, cw, rfl, how, hbw⟩; obtain ⟨A2, c2, wc, hrun, hol, hbl⟩ := HAPP.out _ _ _ _ hbw how; obtain ⟨gz, cz, cuz, hze, _, _, _, hcz⟩ := own_cells hol (by omega); injection hze with hz1 hz2 hz3; subst hz1; have qz : wc.cell? ⟨gz, 0, none⟩ = some (.int .i64 o) := (hcz 0 (by omega)).trans (by rw [HX.out, List.getElem?_map, HX0.out]; rfl); clear hcz hz2 hz3)
      | (at_builtin; refine wpList_append_run rfl _ _ _ rfl hrun (by rfl) (by rfl) ?_))
      have L4 : Hid (Lo wa lo hi b rb q8 A' A [bx gp TP #[.pointer (some ⟨b, 0, none⟩), .pointer (some ⟨rb, 0, none⟩)], bx gl TI d1, bx gv TU d2, wM ga x1 x2 (X.drop (0 + 1)) (V.drop (0 + 1)), wM gb u1 u2 [] [], bx gx 62 #[.int .i64 2, .int .i64 1, .int .i64 o, .int .u64 x, .int .u64 a1, .bool true]] wc) := Lib.hid (L3.out.below hbl)
      clear hwa1 how hbw hrun hol hbl qz L3
      have c4_5_2 : wc.cell? ⟨gx, 2, none⟩ = some (.int .i64 o) := L4.out.c 5 2 rfl rfl
      have c4_5_4 : wc.cell? ⟨gx, 4, none⟩ = some (.int .u64 a1) := L4.out.c 5 4 rfl rfl
      have c4_0_0 : wc.cell? ⟨gp, 0, none⟩ = some (.pointer (some ⟨b, 0, none⟩)) := L4.out.c 0 0 rfl rfl
      have hdn := x_done (i := 4) L4.out rfl (D := true) (Lib.hid rfl)
      have hov := x_over (i := 4) L4.out rfl rfl
      have hoo : ((o : Int) == (o : Int)) = true := by simp
      have haa : (a1 == a1) = true := by simp
      go_wp2_with (first
      | (go_at_call 34; (with_reducible refine hdn.mono ?_); rintro e y5 ⟨rfl, rfl⟩)
      | (go_at_call 37; (with_reducible refine hov.mono ?_); rintro e y6 ⟨rfl, hLy⟩)
      | (go_at_call 30; (with_reducible refine (l_awake _).mono ?_); rintro e wz ⟨rfl, hbz⟩))
      have HF := Lib.hid (below_trans2 HB1.out (below_trans2 hLy.old hbz))
      clear hbz hLy hdn hov L4 c4_5_2 c4_5_4 c4_0_0
      go_ret
      exact ⟨rfl, .of_below HF.out⟩

/-! The row's step. -/
set_option maxRecDepth 100000 in
theorem lifted (os : Os) (started : os.Started) (H : Type) (enc : TypeId × Value → H) :
    ReturnsInHanded {} Try.checked os 7 .any (Rows.writerKeepsSpec.pre6 enc Try.prog Try.f7 Rows.writerKeepsRow.domain false) (Rows.writerKeepsSpec.post enc Try.prog Try.f7 false true false false) := by
  refine returnsInHanded_of_change (C := Try.checked) own started (by kernel_rfl) Try.func7
    (ChangeSpec.witness6 (enc := enc) (C := Try.checked) false ⟨#[], #[.slice none 0 0, .int .u64 0], []⟩ 8 (by kernel_rfl) (by kernel_rfl) (by kernel_rfl) (by kernel_rfl)) ?_
  intro W base args ds gs before hval0 hW hcnd _
  have hval : ∀ (j : Nat) t v, Try.f7.params[j]? = some t → args[j]? = some v → Value.okWide Try.prog W .any base t v := hval0
  have hW' := hW
  obtain ⟨p, q, hA0, hV, rfl, hfz, hnd⟩ := hW
  have hA : DataW.TrodAll enc Try.prog W 0 (fun _ => true) true Try.f7.params.toList args.toList ds p := hA0
  rw [Try.params7] at hA hval
  obtain ⟨v0, vs0, d0, ds0, p0, q0, hargs, rfl, rfl, h0, r0⟩ := trodAll_cons hA
  obtain ⟨v1, vs1, d1, ds1, p1, q1, rfl, rfl, rfl, h1, r1⟩ := trodAll_cons r0
  obtain ⟨rfl, rfl, rfl⟩ := trodAll_nil r1
  obtain rfl : args = #[v0, v1] := by cases args; simp_all
  obtain ⟨rfl, rfl⟩ := trodVars_none hV
  have hk : ∀ W', Kept W W' → Rows.writerKeepsSpec.post enc Try.prog Try.f7 false true false false W #[v0, v1] (.bool true) W' := fun W' hb =>
    post_law laidOut readable rfl Try.underlying4 rfl hW' rfl hb
  clear hA0 hval0 hA hW'
  obtain ⟨A0, n0, c0, z0, rfl, l0, m0, s0⟩ := open_slice Try.underlying47 Try.underlying3 cells3 (hval 0 47 v0 rfl rfl) h0
  obtain ⟨a1, rfl, rfl, rfl, w1⟩ := open_int Try.underlying29 (hval 1 29 v1 rfl rfl) h1
  refine (walk W A0 n0 c0 z0 l0 m0 s0 a1 w1).mono fun e W' ⟨he, hg⟩ => ?_
  subst he
  exact ⟨_, rfl, hk W' hg⟩

theorem over : Rows.writerKeepsRow.holds Try.pinned (OpenSpec.ofChange Rows.writerKeepsSpec) :=
  OpenClaim.holds_of_wide 7 Try.f7 rfl rfl rfl rfl rfl rfl rfl ⟨rfl, rfl, rfl, rfl, rfl⟩ rfl rfl rfl rfl rfl (by kernel_rfl) Try.func7 (by kernel_rfl)
    (of_decide_eq_true (by kernel_rfl)) (by unfold Func.isWrapper; first | (rw [if_pos (by decide +kernel)]; kernel_rfl) | (rw [if_neg (by decide +kernel)]; exact ⟨rfl, rfl⟩))
    (fun os started H enc _ => lifted os started H enc)

/-- The statement. -/
theorem proved : Rows.WriterKeepsSaid :=
  over
#print axioms proved
end Go.Proofs.Ytfondhajedkmbaa.writerKeeps
