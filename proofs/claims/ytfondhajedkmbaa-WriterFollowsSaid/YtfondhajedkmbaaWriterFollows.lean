/-
  Proved: a writeback makes the operations of the document, step by step, also with lists of different lengths. No condition.
-/
import Derived.Test.YtfondhajedkmbaaRows
import Derived.WalkKit
import Derived.ProofKit
import Derived.OpenShut
import Derived.Test.YtfondhajedkmbaaFrame
import Derived.Test.YtfondhajedkmbaaWrL
import Derived.Test.YtfondhajedkmbaaLayO
import Derived.Test.YtfondhajedkmbaaRgn
import Derived.Deep.RegionHeld3
import Derived.Deep.RegionLaw
import Derived.Deep.Cut
import Derived.Deep.DeepCutAuto
import Derived.Deep.CutBlock
import Derived.BigQuiet
import Derived.BigRegion
import Derived.Deep.QuietTactic
namespace Go.Proofs.Ytfondhajedkmbaa.writerFollows
open Go.ChangeShapes Go.WideShapes Go.ChangeAt Go.RowKit
open LawFrame
open Go.ChangeMaps (open_string)
set_option linter.unusedVariables false

theorem own : ownKnob Try.prog.godebug = none := by kernel_rfl
theorem laidOut : laidOutB Try.prog = true := by kernel_rfl
theorem cells29 : Try.prog.cellsOf 29 = 1 := by kernel_rfl
theorem cells3 : Try.prog.cellsOf 3 = 1 := by kernel_rfl

open LawFrame PlainT BlkW LayS LayA LayH LayK LayP CelS CelM CelP CelV CelN CelO CelQ CelF CelB LabD LabR LabP LabS LabX LabN CelLo RsA ObjA ClnA WrA WrB WrL
set_option maxHeartbeats 4000000
set_option maxRecDepth 400000
/-- What holds of the world while the long condition is reckoned: ahead of both steps, between them, behind them. -/
def Ts (P0 P1 P2 : World → Prop) (c1 c2 : Bool) (w : World) : Prop :=
  match c1, c2 with
  | false, _ => P0 w
  | true, false => P1 w
  | true, true => P2 w
theorem ts_any {P0 P1 P2 : World → Prop} {c1 c2 : Bool} {w : World} (h : Ts P0 P1 P2 c1 c2 w) : P0 w ∨ P1 w ∨ P2 w := by
  cases c1 <;> cases c2
  · exact .inl h
  · exact .inl h
  · exact .inr (.inl h)
  · exact .inr (.inr h)

theorem readable : ∀ t ∈ Try.f5.params.toList, Try.prog.readableRec t = true ∧ t < Try.prog.types.size := by
  have h : (Try.f5.params.toList.all fun t => Try.prog.readableRec t && decide (t < Try.prog.types.size)) = true := by kernel_rfl
  intro t ht
  have := List.all_eq_true.1 h t ht
  simpa using this

/-! The walk. -/
theorem walk (w : World) (A0 : Option Addr) (n0 c0 : Nat) (z0 : List Int) (l0 : n0 ≤ c0) (m0 : c0 ≤ maxLen) (s0 : Ints .i64 w A0 n0 z0) (A1 : Option Addr) (n1 c1 : Nat) (z1 : List Int) (l1 : n1 ≤ c1) (m1 : c1 ≤ maxLen) (s1 : Ints .u64 w A1 n1 z1) :
    Calls Try.prog 5 #[.slice A0 n0 c0, .slice A1 n1 c1] w fun e w' => e = .returned (.bool true) ∧ Kept w w' := by
  obtain ⟨W, hW12, hW7, hWc⟩ := l_addrs s0 c0
  have HOK : Hid (LOk W) := Lib.hid ⟨by omega, hW7⟩
  have HWc := Lib.hid hWc
  have HZ1 := Lib.hid s1
  clear s1
  clear hW7 hWc s0 l0 m0
  go_enter Try.func5, Try.ntmps5
  go_upto_region 2 with (first
    | (go_at_call 29; (with_reducible refine (l_config17 _).mono ?_); rintro e wa ⟨rfl, hb1⟩)
    | (go_at_call 28; (with_reducible refine (start_eight 2 2 rfl (by decide) (by decide) _).mono ?_); rintro e w2 ⟨A, lo, hi, b, rb, rfl, hst⟩))
  have L0 : Hid (Lo wa lo hi b rb q8 A A [] w2) := Lib.hid (Lo.begunN hst)
  have HA : Hid (One A) := Lib.hid (begun_eight hst)
  have HB1 := Lib.hid hb1
  clear hst hb1
  have L1 := Lib.hid (L0.out.new TP #[.pointer (some ⟨b, 0, none⟩), .pointer (some ⟨rb, 0, none⟩)])
  obtain ⟨gp, hn⟩ : ∃ gp, w2.heap.size = gp := ⟨_, rfl⟩
  rw [hn] at L1
  first | rw [hn] | skip
  clear hn
  obtain ⟨W1, hW⟩ : ∃ W', w2.alloc (.cells #[.pointer (some ⟨b, 0, none⟩), .pointer (some ⟨rb, 0, none⟩)] TP) = W' := ⟨_, rfl⟩
  rw [hW] at L1
  first | rw [hW] | skip
  clear hW
  have L1 : Hid (Lo wa lo hi b rb q8 A A [bx gp TP #[.pointer (some ⟨b, 0, none⟩), .pointer (some ⟨rb, 0, none⟩)]] W1) := L1
  clear L0
  by_cases hv : n1 ≤ 20
  · have hvI : (n1 : Int) ≤ 20 := by omega
    obtain ⟨m, hm⟩ : ∃ m, min W.length n1 = m := ⟨_, rfl⟩
    have hB := below_trans2 HB1.out L1.out.old
    have hwa1 := HWc.out W1 hB
    have hnl1 : ∀ w2 p c, Below W1.heap.size W1 w2 → RdS .i64 w2 (.slice p W.length c) W → Calls _ _ _ _ _ := fun w2 p c hb hr => x_new (L1.out.below hb) p A1 W.length n1 c c1 m W z1 hr (rds_ints HZ1.out l1 m1 (below_trans2 hB hb)) hm (by omega)
    have hwa2 : ∀ (w4 : World) (ex : List Ob), Lo wa lo hi b rb q8 A A ex w4 → Calls _ _ _ w4 _ := fun w4 ex h => HWc.out w4 (below_trans2 HB1.out h.old)
    have hnl2 : ∀ (w4 : World) (ex : List Ob), Lo wa lo hi b rb q8 A A ex w4 → ∀ w5 p c, Below w4.heap.size w4 w5 → w5.ownsRow w4.heap.size TI 1 (.slice p W.length c) W.length (W.map (Value.int .i64)) → Calls _ _ _ _ _ := fun w4 ex h w5 p c hb ho => y_new (p2 := A1) (h.add hb (o := rd .i64 (.slice p W.length c) W) (rdr_own ho) fun x hx => (World.ownsRow.lt ho x (blk_mem hx)).1) rfl hm l1
    go_upto_region 5 with (first
      | (go_at_call 32; (with_reducible refine hwa1.mono ?_); rintro e w3 ⟨pw, cw, rfl, how, hbw⟩; have hnl1 := hnl1 _ _ _ hbw (rdr_own how).slice)
      | (go_at_call 31; (with_reducible refine hnl1.mono ?_); rintro e w4 ⟨ga, v1, v2, rfl, hL4⟩; have hwa2 := hwa2 _ _ hL4; have hnl2 := hnl2 _ _ hL4)
      | (go_at_call 32; (with_reducible refine hwa2.mono ?_); rintro e w5 ⟨pq, cq, rfl, hoq, hbq⟩; have hnl2 := hnl2 _ _ _ hbq hoq)
      | (go_at_call 33; (with_reducible refine hnl2.mono ?_); rintro e w6 ⟨gb, rfl, hL6⟩))
    have hxm : (W.take m).length = m := by rw [List.length_take]; omega
    have hym : (z1.take m).length = m := by rw [List.length_take, HZ1.out.1]; omega
    have HVA : VA wa A1 (z1.take m) m := va_ints HZ1.out HB1.out (by omega)
    have HOX : Hid (LOk (W.take m)) := Lib.hid (HOK.out.take m)
    have hm12 : m ≤ 12 := by omega
    obtain ⟨xs, hxs⟩ : ∃ xs, W.take m = xs := ⟨_, rfl⟩
    obtain ⟨ys, hys⟩ : ∃ ys, z1.take m = ys := ⟨_, rfl⟩
    have hL7 := hL6
    rw [hxs] at hL7 hxm HOX
    rw [hys] at hL7 hym HVA
    rw [← hxm] at hL7 hym HVA hm12
    have L2 : Hid (Lo wa lo hi b rb q8 A A [bx gp TP #[.pointer (some ⟨b, 0, none⟩), .pointer (some ⟨rb, 0, none⟩)], wM ga v1 v2 (xs.drop 0) (ys.drop 0), sM gb (.slice pq xs.length cq) (.slice A1 xs.length c1) xs 0] w6) := Lib.hid hL7
    have HXY := Lib.hid hym
    have HVA := Lib.hid HVA
    clear hL7 hL6 hL4 hnl1 hnl2 hwa1 hwa2 how hoq hbw hbq hB hxs hys hym hxm hm L1 HZ1 HOK HWc hv hvI hW12
    go_wp2_with fail
    go_loopw [9] (fun iv wr => ∃ (i k : Nat) (v1 v2 : Value) (A3 : Int → List Int), i ≤ 14 ∧ iv = .int .i64 i ∧ k = min i xs.length ∧ Hid (One A3) ∧ Hid (Lo wa lo hi b rb q8 A3 A3 [bx gp TP #[.pointer (some ⟨b, 0, none⟩), .pointer (some ⟨rb, 0, none⟩)], wM ga v1 v2 (xs.drop k) (ys.drop k), sM gb (.slice pq xs.length cq) (.slice A1 xs.length c1) xs k] wr)) (fun iv _ => 14 - (intOf iv).toNat)
    case atStart => exact ⟨0, 0, v1, v2, A, by omega, rfl, by omega, HA, L2⟩
    case round =>
      clear L2 HA
      obtain ⟨i, k, v1, v2, A3, hi14, rfl, hk, HA, L0⟩ := hrel
      have hkl : k ≤ xs.length := by omega
      by_cases hlt : i < 14
      · have hltI : (i : Int) < 14 := by omega
        obtain ⟨D, hD⟩ : ∃ D, decide (k = xs.length) = D := ⟨_, rfl⟩
        have hD1 : decide ((xs.drop k).length = 0) = D := by rw [← hD, List.length_drop]; exact decide_eq_decide.2 (by omega)
        have HD := Lib.hid hD
        have HD1 := Lib.hid hD1
        clear hD hD1
        obtain ⟨z, hz⟩ : ∃ z : Int, ((xs.drop k).length : Int) = z := ⟨_, rfl⟩
        have HZ := Lib.hid hz
        have hzs : (xs.length : Int) - k = z := by rw [← hz, List.length_drop]; omega
        have hzr : 0 ≤ z ∧ z ≤ 12 := by omega
        clear hz
        have hsub : wrap64 ((xs.length : Int) - k) = z := (IntWalk.wrap64_in _ (by omega)).trans hzs
        have hsub2 : IntKind.i64.wrap ((xs.length : Int) - k) = z := (IntWalk.i64_in _ (by omega)).trans hzs
        clear hzs hzr
        obtain ⟨k1, k2, k3, k4, k5, d, hac⟩ := acW_ex xs ys k (A3 1)
        obtain ⟨A', hA'⟩ : ∃ A', nA A3 xs ys k = A' := ⟨_, rfl⟩
        obtain ⟨k', hk'⟩ : ∃ k', nK xs k = k' := ⟨_, rfl⟩
        have HA2 : Hid (One A') := Lib.hid (by rw [← hA']; exact one_nA HA.out)
        have HK2 : Hid (k' = min (i + 1) xs.length) := Lib.hid (by rw [← hk']; exact nK_min hk)
        obtain ⟨P0, P1, P2, h00, hcb, hcg, hd1, hd2, hle, hs1, hs2, hsm, hfin⟩ : ∃ P0 P1 P2 : World → Prop, Hid (P0 wr.drew) ∧ Hid (∀ u, P0 u → u.cell? ⟨gb, 1, none⟩ = some (.slice pq xs.length cq) ∧ u.cell? ⟨gb, 3, none⟩ = some (.int .i64 k)) ∧ Hid (∀ u, P0 u ∨ P1 u ∨ P2 u → (u.cell? ⟨gp, 0, none⟩ = some (.pointer (some ⟨b, 0, none⟩)) ∧ u.cell? ⟨gp, 1, none⟩ = some (.pointer (some ⟨rb, 0, none⟩)))) ∧ Hid (∀ u, P0 u → Calls Try.prog 34 #[.pointer (some ⟨ga, 0, none⟩)] u fun e u' => e = .returned (.bool D) ∧ u = u') ∧ Hid (∀ u, P0 u → Calls Try.prog 35 #[.pointer (some ⟨gb, 0, none⟩)] u fun e u' => e = .returned (.bool D) ∧ P0 u') ∧ Hid (∀ u, P0 u → Calls Try.prog 36 #[.pointer (some ⟨ga, 0, none⟩)] u fun e u' => e = .returned (.int .i64 z) ∧ u = u') ∧ Hid (∀ u, P0 u → Calls Try.prog 37 #[.pointer (some ⟨ga, 0, none⟩), .pointer (some ⟨b, 0, none⟩)] u fun e u' => e = .returned (accV k1 k2 k3 k4 k5 d) ∧ P1 u') ∧ Hid (∀ u, P1 u → Calls Try.prog 38 #[.pointer (some ⟨gb, 0, none⟩), .pointer (some ⟨rb, 0, none⟩)] u fun e u' => e = .returned (accV k1 k2 k3 k4 k5 d) ∧ P2 u') ∧ Hid (∀ u, P2 u → Calls Try.prog 27 #[pairV b rb] u fun e u' => e = .returned (.bool true) ∧ P2 u') ∧ Hid (∀ u, P2 u → ∃ x1 x2, Lo wa lo hi b rb q8 A' A' [bx gp TP #[.pointer (some ⟨b, 0, none⟩), .pointer (some ⟨rb, 0, none⟩)], wM ga x1 x2 (xs.drop k') (ys.drop k'), sM gb (.slice pq xs.length cq) (.slice A1 xs.length c1) xs k'] u) := by
          refine ⟨fun u => Lo wa lo hi b rb q8 A3 A3 [bx gp TP #[.pointer (some ⟨b, 0, none⟩), .pointer (some ⟨rb, 0, none⟩)], wM ga v1 v2 (xs.drop k) (ys.drop k), sM gb (.slice pq xs.length cq) (.slice A1 xs.length c1) xs k] u, fun u => ∃ x1 x2, Lo wa lo hi b rb q8 A' A3 [bx gp TP #[.pointer (some ⟨b, 0, none⟩), .pointer (some ⟨rb, 0, none⟩)], wM ga x1 x2 (xs.drop k') (ys.drop k'), sM gb (.slice pq xs.length cq) (.slice A1 xs.length c1) xs k] u, fun u => ∃ x1 x2, Lo wa lo hi b rb q8 A' A' [bx gp TP #[.pointer (some ⟨b, 0, none⟩), .pointer (some ⟨rb, 0, none⟩)], wM ga x1 x2 (xs.drop k') (ys.drop k'), sM gb (.slice pq xs.length cq) (.slice A1 xs.length c1) xs k'] u, Lib.hid L0.out.drew, Lib.hid fun u h => y_cells (i := 2) h rfl, Lib.hid fun u h => ?_, Lib.hid fun u h => x_done (i := 1) h rfl HD1, Lib.hid fun u h => y_done (i := 2) h rfl HD, Lib.hid fun u h => x_left (i := 1) h rfl HZ, Lib.hid fun u h => ?_, Lib.hid fun u h => ?_, Lib.hid fun u h => ?_, Lib.hid fun u h => h⟩
          · rcases h with h | ⟨_, _, h⟩ | ⟨_, _, h⟩
            all_goals exact ⟨h.c 0 0 rfl rfl, h.c 0 1 rfl rfl⟩
          · exact x_step (i := 1) h rfl HOX.out HXY.out hkl HA.out.1 (Lib.hid hac) (Lib.hid hA') (Lib.hid hk')
          · obtain ⟨x1, x2, h⟩ := h
            exact (y_step (i := 2) h rfl HOX.out HVA.out hkl HA.out.1 (Lib.hid hac) (Lib.hid hA') (Lib.hid hk')).mono fun e u' hh => ⟨hh.1, x1, x2, hh.2⟩
          · obtain ⟨x1, x2, h⟩ := h
            exact (lo_same h).mono fun e u' hh => ⟨hh.1, x1, x2, hh.2⟩
        have hDD : (D != D) = false := by cases D <;> rfl
        have hzz : (z != z) = false := by simp
        clear hac hA' hk' hk HD HD1 HZ HA
        go_upto_region 10 with (fail)
        clear L0
        refine Rgn.region_lists (by kernel_rfl) [some 40, some 41, some 42, some 43, some 44, some 45, some 46, some 47, some 48, some 49, some 50, some 51, some 52, some 53, some 54, some 55, some 56, some 57, some 58, some 59, some 60, some 61, some 62, some 63, some 64, some 65, some 66, some 67, some 68, some 69, some 70, some 71, some 72, some 73, some 74, some 75]
          (fun g => [.pointer (some ⟨ga, 0, none⟩), .bool D, .pointer (some ⟨gb, 0, none⟩), .bool D, .bool false, .bool false, .pointer (some ⟨ga, 0, none⟩), .int .i64 z, .pointer (some ⟨gb, 0, none⟩), .pointer (some ⟨gb, 0, none⟩), .pointer (some ⟨gb, 1, none⟩), .slice pq xs.length cq, .int .i64 xs.length, .pointer (some ⟨gb, 0, none⟩), .pointer (some ⟨gb, 0, none⟩), .pointer (some ⟨gb, 3, none⟩), .int .i64 k, .int .i64 z, .bool false, .bool false, .bool false, .pointer (some ⟨ga, 0, none⟩), .pointer (some ⟨gp, 0, none⟩), .pointer (some ⟨b, 0, none⟩), accV k1 k2 k3 k4 k5 d, .pointer (some ⟨gb, 0, none⟩), .pointer (some ⟨gp, 1, none⟩), .pointer (some ⟨rb, 0, none⟩), accV k1 k2 k3 k4 k5 d, .bool false, .bool false, .bool false, pairV b rb, .bool true, .bool false, .bool false])
          (fun (g : Unit) L w9 => Ts P0 P1 P2 (L 24) (L 28) w9) () 36 77 (by kernel_rfl) (by kernel_rfl) (fun _ => rfl) (by kernel_rfl) (by kernel_rfl) h00.out ?_ ?_
        · intro i hi g L a wq hS hLi hup hdn hold hv K hK
          have hi' : i = 0 ∨ i = 1 ∨ i = 2 ∨ i = 3 ∨ i = 4 ∨ i = 5 ∨ i = 6 ∨ i = 7 ∨ i = 8 ∨ i = 9 ∨ i = 10 ∨ i = 11 ∨ i = 12 ∨ i = 13 ∨ i = 14 ∨ i = 15 ∨ i = 16 ∨ i = 17 ∨ i = 18 ∨ i = 19 ∨ i = 20 ∨ i = 21 ∨ i = 22 ∨ i = 23 ∨ i = 24 ∨ i = 25 ∨ i = 26 ∨ i = 27 ∨ i = 28 ∨ i = 29 ∨ i = 30 ∨ i = 31 ∨ i = 32 ∨ i = 33 ∨ i = 34 ∨ i = 35 := by omega
          clear hi
          rcases hi' with rfl | rfl | rfl | rfl | rfl | rfl | rfl | rfl | rfl | rfl | rfl | rfl | rfl | rfl | rfl | rfl | rfl | rfl | rfl | rfl | rfl | rfl | rfl | rfl | rfl | rfl | rfl | rfl | rfl | rfl | rfl | rfl | rfl | rfl | rfl | rfl
          · have q7 : a.tmps[7]?.getD undef = .pointer (some ⟨ga, 0, none⟩) := (hold 7 (by kernel_rfl)).trans (by kernel_rfl)
            have HS := Lib.hid hS
            clear hS hup hdn hold hv hLi
            refine Rgn.op_of rfl rfl ?_
            go_simp
            exact hK () _ (fun _ _ _ => rfl) HS.out
          · have q40 : a.tmps[40]?.getD undef = .pointer (some ⟨ga, 0, none⟩) := hv 0 40 (by kernel_rfl) (by kernel_rfl)
            have z24 : L 24 = false := hdn 24 rfl (by kernel_rfl)
            have h0 : Ts P0 P1 P2 (L 24) (L 28) wq := hS
            rw [z24] at h0
            have h1 : P0 wq := h0
            have hc := hd1.out wq h1
            have HS := Lib.hid hS
            clear hS hup hdn hold hv hLi
            refine Rgn.op_of rfl rfl ?_
            go_simp
            go_at_call 34
            (with_reducible refine hc.mono ?_)
            rintro e w5 ⟨rfl, rfl⟩
            exact hK () _ (fun _ _ _ => rfl) HS.out
          · have q8 : a.tmps[8]?.getD undef = .pointer (some ⟨gb, 0, none⟩) := (hold 8 (by kernel_rfl)).trans (by kernel_rfl)
            have HS := Lib.hid hS
            clear hS hup hdn hold hv hLi
            refine Rgn.op_of rfl rfl ?_
            go_simp
            exact hK () _ (fun _ _ _ => rfl) HS.out
          · have q42 : a.tmps[42]?.getD undef = .pointer (some ⟨gb, 0, none⟩) := hv 2 42 (by kernel_rfl) (by kernel_rfl)
            have z24 : L 24 = false := hdn 24 rfl (by kernel_rfl)
            have h0 : Ts P0 P1 P2 (L 24) (L 28) wq := hS
            rw [z24] at h0
            have h1 : P0 wq := h0
            have hc := hd2.out wq h1
            have HS := Lib.hid hS
            clear hS hup hdn hold hv hLi
            refine Rgn.op_of rfl rfl ?_
            go_simp
            go_at_call 35
            (with_reducible refine hc.mono ?_)
            rintro e w5 ⟨rfl, h2⟩
            refine hK () _ (fun _ _ _ => rfl) ?_
            show Ts P0 P1 P2 (Rgn.mark L 3 24) (Rgn.mark L 3 28) _
            rw [Rgn.mark_ne (show 24 ≠ 3 by decide), z24]
            exact h2
          · have q41 : a.tmps[41]?.getD undef = .bool D := hv 1 41 (by kernel_rfl) (by kernel_rfl)
            have q43 : a.tmps[43]?.getD undef = .bool D := hv 3 43 (by kernel_rfl) (by kernel_rfl)
            have HS := Lib.hid hS
            clear hS hup hdn hold hv hLi
            refine Rgn.op_of rfl rfl ?_
            go_simp
            exact hK () _ (fun _ _ _ => rfl) HS.out
          · have q44 : a.tmps[44]?.getD undef = .bool false := hv 4 44 (by kernel_rfl) (by kernel_rfl)
            have HS := Lib.hid hS
            clear hS hup hdn hold hv hLi
            refine Rgn.op_of rfl rfl ?_
            go_simp
            exact hK () _ (fun _ _ _ => rfl) HS.out
          · have q7 : a.tmps[7]?.getD undef = .pointer (some ⟨ga, 0, none⟩) := (hold 7 (by kernel_rfl)).trans (by kernel_rfl)
            have hgd : a.tmps[45]?.getD undef = .bool false := hv 5 45 (by kernel_rfl) (by kernel_rfl)
            have HS := Lib.hid hS
            clear hS hup hdn hold hv hLi
            refine Rgn.op_of_guard (j := 5) (d := 45) (b := false) rfl rfl (by kernel_rfl) hgd ?_
            clear hgd
            go_simp
            exact hK () _ (fun _ _ _ => rfl) HS.out
          · have q46 : a.tmps[46]?.getD undef = .pointer (some ⟨ga, 0, none⟩) := hv 6 46 (by kernel_rfl) (by kernel_rfl)
            have hgd : a.tmps[45]?.getD undef = .bool false := hv 5 45 (by kernel_rfl) (by kernel_rfl)
            have z24 : L 24 = false := hdn 24 rfl (by kernel_rfl)
            have h0 : Ts P0 P1 P2 (L 24) (L 28) wq := hS
            rw [z24] at h0
            have h1 : P0 wq := h0
            have hc := hle.out wq h1
            have HS := Lib.hid hS
            clear hS hup hdn hold hv hLi
            refine Rgn.op_of_guard (j := 5) (d := 45) (b := false) rfl rfl (by kernel_rfl) hgd ?_
            clear hgd
            go_simp
            go_at_call 36
            (with_reducible refine hc.mono ?_)
            rintro e w5 ⟨rfl, rfl⟩
            exact hK () _ (fun _ _ _ => rfl) HS.out
          · have q8 : a.tmps[8]?.getD undef = .pointer (some ⟨gb, 0, none⟩) := (hold 8 (by kernel_rfl)).trans (by kernel_rfl)
            have hgd : a.tmps[45]?.getD undef = .bool false := hv 5 45 (by kernel_rfl) (by kernel_rfl)
            have HS := Lib.hid hS
            clear hS hup hdn hold hv hLi
            refine Rgn.op_of_guard (j := 5) (d := 45) (b := false) rfl rfl (by kernel_rfl) hgd ?_
            clear hgd
            go_simp
            exact hK () _ (fun _ _ _ => rfl) HS.out
          · have q48 : a.tmps[48]?.getD undef = .pointer (some ⟨gb, 0, none⟩) := hv 8 48 (by kernel_rfl) (by kernel_rfl)
            have hgd : a.tmps[45]?.getD undef = .bool false := hv 5 45 (by kernel_rfl) (by kernel_rfl)
            have HS := Lib.hid hS
            clear hS hup hdn hold hv hLi
            refine Rgn.op_of_guard (j := 5) (d := 45) (b := false) rfl rfl (by kernel_rfl) hgd ?_
            clear hgd
            go_simp
            exact hK () _ (fun _ _ _ => rfl) HS.out
          · have q49 : a.tmps[49]?.getD undef = .pointer (some ⟨gb, 0, none⟩) := hv 9 49 (by kernel_rfl) (by kernel_rfl)
            have hgd : a.tmps[45]?.getD undef = .bool false := hv 5 45 (by kernel_rfl) (by kernel_rfl)
            have HS := Lib.hid hS
            clear hS hup hdn hold hv hLi
            refine Rgn.op_of_guard (j := 5) (d := 45) (b := false) rfl rfl (by kernel_rfl) hgd ?_
            clear hgd
            go_simp
            exact hK () _ (fun _ _ _ => rfl) HS.out
          · have q50 : a.tmps[50]?.getD undef = .pointer (some ⟨gb, 1, none⟩) := hv 10 50 (by kernel_rfl) (by kernel_rfl)
            have hgd : a.tmps[45]?.getD undef = .bool false := hv 5 45 (by kernel_rfl) (by kernel_rfl)
            have z24 : L 24 = false := hdn 24 rfl (by kernel_rfl)
            have h0 : Ts P0 P1 P2 (L 24) (L 28) wq := hS
            rw [z24] at h0
            have h1 : P0 wq := h0
            have hc1 := (hcb.out wq h1).1
            clear h0 h1 z24
            have HS := Lib.hid hS
            clear hS hup hdn hold hv hLi
            refine Rgn.op_of_guard (j := 5) (d := 45) (b := false) rfl rfl (by kernel_rfl) hgd ?_
            clear hgd
            go_simp
            exact hK () _ (fun _ _ _ => rfl) HS.out
          · have q51 : a.tmps[51]?.getD undef = .slice pq xs.length cq := hv 11 51 (by kernel_rfl) (by kernel_rfl)
            have hgd : a.tmps[45]?.getD undef = .bool false := hv 5 45 (by kernel_rfl) (by kernel_rfl)
            have HS := Lib.hid hS
            clear hS hup hdn hold hv hLi
            refine Rgn.op_of_guard (j := 5) (d := 45) (b := false) rfl rfl (by kernel_rfl) hgd ?_
            clear hgd
            go_simp
            exact hK () _ (fun _ _ _ => rfl) HS.out
          · have q8 : a.tmps[8]?.getD undef = .pointer (some ⟨gb, 0, none⟩) := (hold 8 (by kernel_rfl)).trans (by kernel_rfl)
            have hgd : a.tmps[45]?.getD undef = .bool false := hv 5 45 (by kernel_rfl) (by kernel_rfl)
            have HS := Lib.hid hS
            clear hS hup hdn hold hv hLi
            refine Rgn.op_of_guard (j := 5) (d := 45) (b := false) rfl rfl (by kernel_rfl) hgd ?_
            clear hgd
            go_simp
            exact hK () _ (fun _ _ _ => rfl) HS.out
          · have q53 : a.tmps[53]?.getD undef = .pointer (some ⟨gb, 0, none⟩) := hv 13 53 (by kernel_rfl) (by kernel_rfl)
            have hgd : a.tmps[45]?.getD undef = .bool false := hv 5 45 (by kernel_rfl) (by kernel_rfl)
            have HS := Lib.hid hS
            clear hS hup hdn hold hv hLi
            refine Rgn.op_of_guard (j := 5) (d := 45) (b := false) rfl rfl (by kernel_rfl) hgd ?_
            clear hgd
            go_simp
            exact hK () _ (fun _ _ _ => rfl) HS.out
          · have q54 : a.tmps[54]?.getD undef = .pointer (some ⟨gb, 0, none⟩) := hv 14 54 (by kernel_rfl) (by kernel_rfl)
            have hgd : a.tmps[45]?.getD undef = .bool false := hv 5 45 (by kernel_rfl) (by kernel_rfl)
            have HS := Lib.hid hS
            clear hS hup hdn hold hv hLi
            refine Rgn.op_of_guard (j := 5) (d := 45) (b := false) rfl rfl (by kernel_rfl) hgd ?_
            clear hgd
            go_simp
            exact hK () _ (fun _ _ _ => rfl) HS.out
          · have q55 : a.tmps[55]?.getD undef = .pointer (some ⟨gb, 3, none⟩) := hv 15 55 (by kernel_rfl) (by kernel_rfl)
            have hgd : a.tmps[45]?.getD undef = .bool false := hv 5 45 (by kernel_rfl) (by kernel_rfl)
            have z24 : L 24 = false := hdn 24 rfl (by kernel_rfl)
            have h0 : Ts P0 P1 P2 (L 24) (L 28) wq := hS
            rw [z24] at h0
            have h1 : P0 wq := h0
            have hc1 := (hcb.out wq h1).2
            clear h0 h1 z24
            have HS := Lib.hid hS
            clear hS hup hdn hold hv hLi
            refine Rgn.op_of_guard (j := 5) (d := 45) (b := false) rfl rfl (by kernel_rfl) hgd ?_
            clear hgd
            go_simp
            exact hK () _ (fun _ _ _ => rfl) HS.out
          · have q52 : a.tmps[52]?.getD undef = .int .i64 xs.length := hv 12 52 (by kernel_rfl) (by kernel_rfl)
            have q56 : a.tmps[56]?.getD undef = .int .i64 k := hv 16 56 (by kernel_rfl) (by kernel_rfl)
            have hgd : a.tmps[45]?.getD undef = .bool false := hv 5 45 (by kernel_rfl) (by kernel_rfl)
            have HS := Lib.hid hS
            clear hS hup hdn hold hv hLi
            refine Rgn.op_of_guard (j := 5) (d := 45) (b := false) rfl rfl (by kernel_rfl) hgd ?_
            clear hgd
            go_simp
            exact hK () _ (fun _ _ _ => rfl) HS.out
          · have q47 : a.tmps[47]?.getD undef = .int .i64 z := hv 7 47 (by kernel_rfl) (by kernel_rfl)
            have q57 : a.tmps[57]?.getD undef = .int .i64 z := hv 17 57 (by kernel_rfl) (by kernel_rfl)
            have hgd : a.tmps[45]?.getD undef = .bool false := hv 5 45 (by kernel_rfl) (by kernel_rfl)
            have HS := Lib.hid hS
            clear hS hup hdn hold hv hLi
            refine Rgn.op_of_guard (j := 5) (d := 45) (b := false) rfl rfl (by kernel_rfl) hgd ?_
            clear hgd
            go_simp
            exact hK () _ (fun _ _ _ => rfl) HS.out
          · have q45 : a.tmps[45]?.getD undef = .bool false := hv 5 45 (by kernel_rfl) (by kernel_rfl)
            have q58 : a.tmps[58]?.getD undef = .bool false := hv 18 58 (by kernel_rfl) (by kernel_rfl)
            have HS := Lib.hid hS
            clear hS hup hdn hold hv hLi
            refine Rgn.op_of rfl rfl ?_
            go_simp
            exact hK () _ (fun _ _ _ => rfl) HS.out
          · have q59 : a.tmps[59]?.getD undef = .bool false := hv 19 59 (by kernel_rfl) (by kernel_rfl)
            have HS := Lib.hid hS
            clear hS hup hdn hold hv hLi
            refine Rgn.op_of rfl rfl ?_
            go_simp
            exact hK () _ (fun _ _ _ => rfl) HS.out
          · have q7 : a.tmps[7]?.getD undef = .pointer (some ⟨ga, 0, none⟩) := (hold 7 (by kernel_rfl)).trans (by kernel_rfl)
            have hgd : a.tmps[60]?.getD undef = .bool false := hv 20 60 (by kernel_rfl) (by kernel_rfl)
            have HS := Lib.hid hS
            clear hS hup hdn hold hv hLi
            refine Rgn.op_of_guard (j := 20) (d := 60) (b := false) rfl rfl (by kernel_rfl) hgd ?_
            clear hgd
            go_simp
            exact hK () _ (fun _ _ _ => rfl) HS.out
          · have q5 : a.tmps[5]?.getD undef = .pointer (some ⟨gp, 0, none⟩) := (hold 5 (by kernel_rfl)).trans (by kernel_rfl)
            have hgd : a.tmps[60]?.getD undef = .bool false := hv 20 60 (by kernel_rfl) (by kernel_rfl)
            have HS := Lib.hid hS
            clear hS hup hdn hold hv hLi
            refine Rgn.op_of_guard (j := 20) (d := 60) (b := false) rfl rfl (by kernel_rfl) hgd ?_
            clear hgd
            go_simp
            exact hK () _ (fun _ _ _ => rfl) HS.out
          · have q62 : a.tmps[62]?.getD undef = .pointer (some ⟨gp, 0, none⟩) := hv 22 62 (by kernel_rfl) (by kernel_rfl)
            have hgd : a.tmps[60]?.getD undef = .bool false := hv 20 60 (by kernel_rfl) (by kernel_rfl)
            have h0 : Ts P0 P1 P2 (L 24) (L 28) wq := hS
            have h1 := ts_any h0
            have hc1 := (hcg.out wq h1).1
            have hc2 := (hcg.out wq h1).2
            clear h0 h1
            have HS := Lib.hid hS
            clear hS hup hdn hold hv hLi
            refine Rgn.op_of_guard (j := 20) (d := 60) (b := false) rfl rfl (by kernel_rfl) hgd ?_
            clear hgd
            go_simp
            exact hK () _ (fun _ _ _ => rfl) HS.out
          · have q61 : a.tmps[61]?.getD undef = .pointer (some ⟨ga, 0, none⟩) := hv 21 61 (by kernel_rfl) (by kernel_rfl)
            have q63 : a.tmps[63]?.getD undef = .pointer (some ⟨b, 0, none⟩) := hv 23 63 (by kernel_rfl) (by kernel_rfl)
            have hgd : a.tmps[60]?.getD undef = .bool false := hv 20 60 (by kernel_rfl) (by kernel_rfl)
            have z24 : L 24 = false := hLi
            have z28 : L 28 = false := hdn 28 rfl (by kernel_rfl)
            have h0 : Ts P0 P1 P2 (L 24) (L 28) wq := hS
            rw [z24] at h0
            have h1 : P0 wq := h0
            have hc := hs1.out wq h1
            have HS := Lib.hid hS
            clear hS hup hdn hold hv hLi
            refine Rgn.op_of_guard (j := 20) (d := 60) (b := false) rfl rfl (by kernel_rfl) hgd ?_
            clear hgd
            go_simp
            go_at_call 37
            (with_reducible refine hc.mono ?_)
            rintro e w5 ⟨rfl, h2⟩
            refine hK () _ (fun _ _ _ => rfl) ?_
            show Ts P0 P1 P2 (Rgn.mark L 24 24) (Rgn.mark L 24 28) _
            rw [Rgn.mark_self, Rgn.mark_ne (show 28 ≠ 24 by decide), z28]
            exact h2
          · have q8 : a.tmps[8]?.getD undef = .pointer (some ⟨gb, 0, none⟩) := (hold 8 (by kernel_rfl)).trans (by kernel_rfl)
            have hgd : a.tmps[60]?.getD undef = .bool false := hv 20 60 (by kernel_rfl) (by kernel_rfl)
            have HS := Lib.hid hS
            clear hS hup hdn hold hv hLi
            refine Rgn.op_of_guard (j := 20) (d := 60) (b := false) rfl rfl (by kernel_rfl) hgd ?_
            clear hgd
            go_simp
            exact hK () _ (fun _ _ _ => rfl) HS.out
          · have q5 : a.tmps[5]?.getD undef = .pointer (some ⟨gp, 0, none⟩) := (hold 5 (by kernel_rfl)).trans (by kernel_rfl)
            have hgd : a.tmps[60]?.getD undef = .bool false := hv 20 60 (by kernel_rfl) (by kernel_rfl)
            have HS := Lib.hid hS
            clear hS hup hdn hold hv hLi
            refine Rgn.op_of_guard (j := 20) (d := 60) (b := false) rfl rfl (by kernel_rfl) hgd ?_
            clear hgd
            go_simp
            exact hK () _ (fun _ _ _ => rfl) HS.out
          · have q66 : a.tmps[66]?.getD undef = .pointer (some ⟨gp, 1, none⟩) := hv 26 66 (by kernel_rfl) (by kernel_rfl)
            have hgd : a.tmps[60]?.getD undef = .bool false := hv 20 60 (by kernel_rfl) (by kernel_rfl)
            have h0 : Ts P0 P1 P2 (L 24) (L 28) wq := hS
            have h1 := ts_any h0
            have hc1 := (hcg.out wq h1).1
            have hc2 := (hcg.out wq h1).2
            clear h0 h1
            have HS := Lib.hid hS
            clear hS hup hdn hold hv hLi
            refine Rgn.op_of_guard (j := 20) (d := 60) (b := false) rfl rfl (by kernel_rfl) hgd ?_
            clear hgd
            go_simp
            exact hK () _ (fun _ _ _ => rfl) HS.out
          · have q65 : a.tmps[65]?.getD undef = .pointer (some ⟨gb, 0, none⟩) := hv 25 65 (by kernel_rfl) (by kernel_rfl)
            have q67 : a.tmps[67]?.getD undef = .pointer (some ⟨rb, 0, none⟩) := hv 27 67 (by kernel_rfl) (by kernel_rfl)
            have hgd : a.tmps[60]?.getD undef = .bool false := hv 20 60 (by kernel_rfl) (by kernel_rfl)
            have z24 : L 24 = true := hup 24 (by kernel_rfl)
            have z28 : L 28 = false := hLi
            have h0 : Ts P0 P1 P2 (L 24) (L 28) wq := hS
            rw [z24, z28] at h0
            have h1 : P1 wq := h0
            have hc := hs2.out wq h1
            have HS := Lib.hid hS
            clear hS hup hdn hold hv hLi
            refine Rgn.op_of_guard (j := 20) (d := 60) (b := false) rfl rfl (by kernel_rfl) hgd ?_
            clear hgd
            go_simp
            go_at_call 38
            (with_reducible refine hc.mono ?_)
            rintro e w5 ⟨rfl, h2⟩
            refine hK () _ (fun _ _ _ => rfl) ?_
            show Ts P0 P1 P2 (Rgn.mark L 28 24) (Rgn.mark L 28 28) _
            rw [Rgn.mark_self, Rgn.mark_ne (show 24 ≠ 28 by decide), z24]
            exact h2
          · have q64 : a.tmps[64]?.getD undef = accV k1 k2 k3 k4 k5 d := hv 24 64 (by kernel_rfl) (by kernel_rfl)
            have q68 : a.tmps[68]?.getD undef = accV k1 k2 k3 k4 k5 d := hv 28 68 (by kernel_rfl) (by kernel_rfl)
            have hgd : a.tmps[60]?.getD undef = .bool false := hv 20 60 (by kernel_rfl) (by kernel_rfl)
            have HS := Lib.hid hS
            clear hS hup hdn hold hv hLi
            refine Rgn.op_of_guard (j := 20) (d := 60) (b := false) rfl rfl (by kernel_rfl) hgd ?_
            clear hgd
            go_simp
            exact hK () _ (fun _ _ _ => rfl) HS.out
          · have q60 : a.tmps[60]?.getD undef = .bool false := hv 20 60 (by kernel_rfl) (by kernel_rfl)
            have q69 : a.tmps[69]?.getD undef = .bool false := hv 29 69 (by kernel_rfl) (by kernel_rfl)
            have HS := Lib.hid hS
            clear hS hup hdn hold hv hLi
            refine Rgn.op_of rfl rfl ?_
            go_simp
            exact hK () _ (fun _ _ _ => rfl) HS.out
          · have q70 : a.tmps[70]?.getD undef = .bool false := hv 30 70 (by kernel_rfl) (by kernel_rfl)
            have HS := Lib.hid hS
            clear hS hup hdn hold hv hLi
            refine Rgn.op_of rfl rfl ?_
            go_simp
            exact hK () _ (fun _ _ _ => rfl) HS.out
          · have q5 : a.tmps[5]?.getD undef = .pointer (some ⟨gp, 0, none⟩) := (hold 5 (by kernel_rfl)).trans (by kernel_rfl)
            have hgd : a.tmps[71]?.getD undef = .bool false := hv 31 71 (by kernel_rfl) (by kernel_rfl)
            have h0 : Ts P0 P1 P2 (L 24) (L 28) wq := hS
            have h1 := ts_any h0
            have hc1 := (hcg.out wq h1).1
            have hc2 := (hcg.out wq h1).2
            clear h0 h1
            have HS := Lib.hid hS
            clear hS hup hdn hold hv hLi
            refine Rgn.op_of_guard (j := 31) (d := 71) (b := false) rfl rfl (by kernel_rfl) hgd ?_
            clear hgd
            go_simp
            exact hK () _ (fun _ _ _ => rfl) HS.out
          · have q72 : a.tmps[72]?.getD undef = pairV b rb := hv 32 72 (by kernel_rfl) (by kernel_rfl)
            have hgd : a.tmps[71]?.getD undef = .bool false := hv 31 71 (by kernel_rfl) (by kernel_rfl)
            have z24 : L 24 = true := hup 24 (by kernel_rfl)
            have z28 : L 28 = true := hup 28 (by kernel_rfl)
            have h0 : Ts P0 P1 P2 (L 24) (L 28) wq := hS
            rw [z24, z28] at h0
            have h1 : P2 wq := h0
            have hc := hsm.out wq h1
            have HS := Lib.hid hS
            clear hS hup hdn hold hv hLi
            refine Rgn.op_of_guard (j := 31) (d := 71) (b := false) rfl rfl (by kernel_rfl) hgd ?_
            clear hgd
            go_simp
            go_at_call 27
            (with_reducible refine hc.mono ?_)
            rintro e w5 ⟨rfl, h2⟩
            refine hK () _ (fun _ _ _ => rfl) ?_
            show Ts P0 P1 P2 (Rgn.mark L 33 24) (Rgn.mark L 33 28) _
            rw [Rgn.mark_ne (show 24 ≠ 33 by decide), Rgn.mark_ne (show 28 ≠ 33 by decide), z24, z28]
            exact h2
          · have q73 : a.tmps[73]?.getD undef = .bool true := hv 33 73 (by kernel_rfl) (by kernel_rfl)
            have hgd : a.tmps[71]?.getD undef = .bool false := hv 31 71 (by kernel_rfl) (by kernel_rfl)
            have HS := Lib.hid hS
            clear hS hup hdn hold hv hLi
            refine Rgn.op_of_guard (j := 31) (d := 71) (b := false) rfl rfl (by kernel_rfl) hgd ?_
            clear hgd
            go_simp
            exact hK () _ (fun _ _ _ => rfl) HS.out
          · have q71 : a.tmps[71]?.getD undef = .bool false := hv 31 71 (by kernel_rfl) (by kernel_rfl)
            have q74 : a.tmps[74]?.getD undef = .bool false := hv 34 74 (by kernel_rfl) (by kernel_rfl)
            have HS := Lib.hid hS
            clear hS hup hdn hold hv hLi
            refine Rgn.op_of rfl rfl ?_
            go_simp
            exact hK () _ (fun _ _ _ => rfl) HS.out
        · intro g L wq hall hS
          have h0 : Ts P0 P1 P2 (L 24) (L 28) wq := hS
          rw [hall 24 rfl, hall 28 rfl] at h0
          have h1 : P2 wq := h0
          obtain ⟨x1, x2, hL⟩ := hfin.out wq h1
          have L2 := Lib.hid hL
          clear h0 h1 hL hS hall hcb hcg hd1 hd2 hle hs1 hs2 hsm hfin h00 hDD hzz hsub hsub2
          simp only [Rgn.putAll, Act.put]
          go_simp
          go_at_K
          go_wp2_with fail
          go_roundw
          case rel => exact ⟨i + 1, k', x1, x2, A', by omega, by go_num, HK2.out, HA2, L2⟩
          case measure => (first | (simp [intOf]; omega) | simp [intOf])
      · have hge : (14 : Int) ≤ i := by omega
        have HB := Lib.hid (below_trans2 HB1.out L0.out.old)
        clear L0 HA hlt hk hi14 HVA HOX HXY
        go_wp2_with (go_at_call 30; (with_reducible refine (l_awake _).mono ?_); rintro e wz ⟨rfl, hbz⟩)
        have HF := Lib.hid (below_trans2 HB.out hbz)
        clear hbz
        go_ret
        exact ⟨rfl, .of_below HF.out⟩
  · have hvI : (20 : Int) < n1 := by omega
    clear hv
    have HB := Lib.hid (below_trans2 HB1.out L1.out.old)
    clear L1 HZ1
    go_wp2_with (go_at_call 30; (with_reducible refine (l_awake _).mono ?_); rintro e wz ⟨rfl, hbz⟩)
    have HF := Lib.hid (below_trans2 HB.out hbz)
    clear hbz
    go_ret
    exact ⟨rfl, .of_below HF.out⟩

/-! The row's step. -/
set_option maxRecDepth 100000 in
theorem lifted (os : Os) (started : os.Started) (H : Type) (enc : TypeId × Value → H) :
    ReturnsInHanded {} Try.checked os 5 .any (Rows.writerFollowsSpec.pre6 enc Try.prog Try.f5 Rows.writerFollowsRow.domain false) (Rows.writerFollowsSpec.post enc Try.prog Try.f5 false true false false) := by
  refine returnsInHanded_of_change (C := Try.checked) own started (by kernel_rfl) Try.func5
    (ChangeSpec.witness6 (enc := enc) (C := Try.checked) false ⟨#[], #[.slice none 0 0, .slice none 0 0], []⟩ 8 (by kernel_rfl) (by kernel_rfl) (by kernel_rfl) (by kernel_rfl)) ?_
  intro W base args ds gs before hval0 hW hcnd _
  have hval : ∀ (j : Nat) t v, Try.f5.params[j]? = some t → args[j]? = some v → Value.okWide Try.prog W .any base t v := hval0
  have hW' := hW
  obtain ⟨p, q, hA0, hV, rfl, hfz, hnd⟩ := hW
  have hA : DataW.TrodAll enc Try.prog W 0 (fun _ => true) true Try.f5.params.toList args.toList ds p := hA0
  rw [Try.params5] at hA hval
  obtain ⟨v0, vs0, d0, ds0, p0, q0, hargs, rfl, rfl, h0, r0⟩ := trodAll_cons hA
  obtain ⟨v1, vs1, d1, ds1, p1, q1, rfl, rfl, rfl, h1, r1⟩ := trodAll_cons r0
  obtain ⟨rfl, rfl, rfl⟩ := trodAll_nil r1
  obtain rfl : args = #[v0, v1] := by cases args; simp_all
  obtain ⟨rfl, rfl⟩ := trodVars_none hV
  have hk : ∀ W', Kept W W' → Rows.writerFollowsSpec.post enc Try.prog Try.f5 false true false false W #[v0, v1] (.bool true) W' := fun W' hb =>
    post_law laidOut readable rfl Try.underlying4 rfl hW' rfl hb
  clear hA0 hval0 hA hW'
  obtain ⟨A0, n0, c0, z0, rfl, l0, m0, s0⟩ := open_slice Try.underlying47 Try.underlying3 cells3 (hval 0 47 v0 rfl rfl) h0
  obtain ⟨A1, n1, c1, z1, rfl, l1, m1, s1⟩ := open_slice Try.underlying37 Try.underlying29 cells29 (hval 1 37 v1 rfl rfl) h1
  refine (walk W A0 n0 c0 z0 l0 m0 s0 A1 n1 c1 z1 l1 m1 s1).mono fun e W' ⟨he, hg⟩ => ?_
  subst he
  exact ⟨_, rfl, hk W' hg⟩

theorem over : Rows.writerFollowsRow.holds Try.pinned (OpenSpec.ofChange Rows.writerFollowsSpec) :=
  OpenClaim.holds_of_wide 5 Try.f5 rfl rfl rfl rfl rfl rfl rfl ⟨rfl, rfl, rfl, rfl, rfl⟩ rfl rfl rfl rfl rfl (by kernel_rfl) Try.func5 (by kernel_rfl)
    (of_decide_eq_true (by kernel_rfl)) (by unfold Func.isWrapper; first | (rw [if_pos (by decide +kernel)]; kernel_rfl) | (rw [if_neg (by decide +kernel)]; exact ⟨rfl, rfl⟩))
    (fun os started H enc _ => lifted os started H enc)

/-- The statement. -/
theorem proved : Rows.WriterFollowsSaid :=
  over
#print axioms proved
end Go.Proofs.Ytfondhajedkmbaa.writerFollows
