/-
  Proved: a limbo has the blocks and versions of the document after each addition and each drain, and a drain makes the operations of the document. No condition.
-/
import Derived.Test.YtpjbmbipkmpkhaaRows
import Derived.WalkKit
import Derived.ProofKit
import Derived.OpenShut
import Derived.Test.YtpjbmbipkmpkhaaFrame
import Derived.Test.YtpjbmbipkmpkhaaLmK
import Derived.Test.YtpjbmbipkmpkhaaLmO
import Derived.Test.YtpjbmbipkmpkhaaRgn
import Derived.Test.YtpjbmbipkmpkhaaLayO
import Derived.Deep.RegionHeld3
import Derived.Deep.RegionLaw
import Derived.Deep.Cut
import Derived.Deep.DeepCutAuto
import Derived.Deep.CutBlock
import Derived.BigQuiet
import Derived.BigRegion
import Derived.Deep.QuietTactic
namespace Go.Proofs.Ytpjbmbipkmpkhaa.limboFollows
open Go.ChangeShapes Go.WideShapes Go.ChangeAt Go.RowKit
open LawFrame
open Go.ChangeMaps (open_string)
set_option linter.unusedVariables false

theorem own : ownKnob Try.prog.godebug = none := by kernel_rfl
theorem laidOut : laidOutB Try.prog = true := by kernel_rfl

open LawFrame PlainT BlkW LayS LayA LayF LayH LayK LayP CelS CelM CelP CelV CelN CelO CelI CelQ LabD LabR LabP LabS LabX LabN CelLo RsA ObjA ClnA FreP FreQ FreV FreC FreI LmP LmA LmB LmC LmD LmE LmF LmL LmK
set_option maxHeartbeats 4000000
set_option maxRecDepth 400000
/-- What holds of the world while the long condition is reckoned: ahead of both steps, between them, behind them. -/
def Ts (P0 P1 P2 : World → Prop) (c1 c2 : Bool) (w : World) : Prop :=
  match c1, c2 with
  | false, _ => P0 w
  | true, false => P1 w
  | true, true => P2 w
theorem ts_any {P0 P1 P2 : World → Prop} {c1 c2 : Bool} {w : World} (h : Ts P0 P1 P2 c1 c2 w) : P0 w ∨ P1 w ∨ P2 w := by
  cases c1 <;> cases c2
  · exact .inl h
  · exact .inl h
  · exact .inr (.inl h)
  · exact .inr (.inr h)

theorem readable : ∀ t ∈ Try.f7.params.toList, Try.prog.readableRec t = true ∧ t < Try.prog.types.size := by
  have h : (Try.f7.params.toList.all fun t => Try.prog.readableRec t && decide (t < Try.prog.types.size)) = true := by kernel_rfl
  intro t ht
  have := List.all_eq_true.1 h t ht
  simpa using this

/-! The walk. -/
theorem walk (w : World) (A0 : Option Addr) (n0 c0 : Nat) (l0 : n0 ≤ c0) (m0 : c0 ≤ maxLen) (s0 : LmO.RowD w A0 n0) :
    Calls Try.prog 7 #[.slice A0 n0 c0] w fun e w' => e = .returned (.bool true) ∧ Kept w w' := by
  have HS0 := Lib.hid s0
  clear s0 l0 m0
  go_enter Try.func7, Try.ntmps7
  by_cases hv : n0 ≤ 20
  · have hvI : (n0 : Int) ≤ 20 := by omega
    go_upto_region 4 with (first | (go_at_call 49; (with_reducible refine (l_heap18 _).mono ?_); rintro e wa ⟨rfl, hb1⟩) | (go_at_call 31; (with_reducible refine (start_heap 2 2 rfl (by decide) (by decide) _).mono ?_); rintro e w2 ⟨A, lo, hi, b, rb, rfl, hst⟩))
    have L0 : Hid (Lo wa lo hi b rb hq A A [] w2) := Lib.hid (Lo.begunN hst)
    have HC := Lib.hid (begun_heap hst)
    have HB1 := Lib.hid hb1
    clear hst hb1
    have L1 := Lib.hid (L0.out.new TP #[.pointer (some ⟨b, 0, none⟩), .pointer (some ⟨rb, 0, none⟩)])
    obtain ⟨gp, hn⟩ : ∃ gp, w2.heap.size = gp := ⟨_, rfl⟩
    rw [hn] at L1
    first | rw [hn] | skip
    clear hn
    obtain ⟨W1, hW⟩ : ∃ W', w2.alloc (.cells #[.pointer (some ⟨b, 0, none⟩), .pointer (some ⟨rb, 0, none⟩)] TP) = W' := ⟨_, rfl⟩
    rw [hW] at L1
    first | rw [hW] | skip
    clear hW
    have L1 : Hid (Lo wa lo hi b rb hq A A [bx gp TP #[.pointer (some ⟨b, 0, none⟩), .pointer (some ⟨rb, 0, none⟩)]] W1) := L1
    clear L0
    have hql : ∀ w3 g As cs w4, Lo wa lo hi b rb hq A A [bx gp TP #[.pointer (some ⟨b, 0, none⟩), .pointer (some ⟨rb, 0, none⟩)], lM g (.slice As 6 cs) (.slice none 0 0) []] w3 → Below w3.heap.size w3 w4 → Calls Try.prog 51 #[.agg #[.int .i64 20, .int .i64 4, .int .i64 1, .int .i64 3, .int .i64 2, .int .i64 1, .int .i64 0, .int .i64 1, .int .i64 1, .int .i64 0, .int .i64 0, .int .i64 0, .bool false]] w4 _ := fun w3 g As cs w4 h hb => ql_new (X := [bx gp TP #[.pointer (some ⟨b, 0, none⟩), .pointer (some ⟨rb, 0, none⟩)], lM g (.slice As 6 cs) (.slice none 0 0) []]) (by rw [List.append_nil]; exact h.below hb)
    go_upto_region 5 with (first | (go_at_call 50; (with_reducible refine hnw.mono ?_); rintro e w3 ⟨g, As, cs, rfl, hL⟩) | (go_at_call 51; (with_reducible refine hqn.mono ?_); rintro e w5 ⟨y, rfl, hL5⟩) | (go_at_call 49; (with_reducible refine (l_heap18 _).mono ?_); rintro e wh ⟨rfl, hbh⟩; first | have hqn := hql _ _ _ _ _ hL hbh | have hnw := x_new (Lo.below L1.out hbh)))
    have L2 : Hid (Lo wa lo hi b rb hq A A [bx gp TP #[.pointer (some ⟨b, 0, none⟩), .pointer (some ⟨rb, 0, none⟩)], lM g (.slice As 6 cs) (.slice none 0 0) [], qM y (.slice none 0 0) (.slice none 0 0) []] w5) := Lib.hid (Lo.glue3 hL5)
    clear L1 hL hL5 hql hqn hnw hbh
    go_upto_region 7 with (fail)
    have HW0 : Hid (WOk ([] : WL)) := Lib.hid (fun p hp => absurd hp List.not_mem_nil)
    have HS6 : Hid (Six A) := Lib.hid (HC.out.1.six (by decide))
    clear HC
    go_wp2_with fail
    go_loopw [7] (fun iv wr => ∃ (i : Nat) (A1 : Int → List Int) (sw vb vv : Value) (ws : WL), i ≤ n0 ∧ iv = .int .i64 i ∧ ws.length ≤ 6 * i ∧ Hid (WOk ws) ∧ Hid (Six A1) ∧ Hid (Lo wa lo hi b rb hq A1 A1 [bx gp TP #[.pointer (some ⟨b, 0, none⟩), .pointer (some ⟨rb, 0, none⟩)], lM g (.slice As 6 cs) sw ws, qM y vb vv ws] wr)) (fun iv _ => n0 - (intOf iv).toNat)
    case atStart => exact ⟨0, A, _, _, _, [], by omega, rfl, by simp, HW0, HS6, L2⟩
    case round =>
      clear L2 HW0 HS6
      obtain ⟨i, A1, sw, vb, vv, ws, hin, rfl, hwl, HW, HS6, L0⟩ := hrel
      by_cases hlt : i < n0
      · have hltI : (i : Int) < n0 := by omega
        obtain ⟨ge, oe, d, ve, Ai, ni, ci, zi, rfl, e0, e1, e2, _, _, hz⟩ := HS0.out.at_ (below_trans2 HB1.out L0.out.old) hlt
        have HZ := Lib.hid hz
        have HE2 : Hid (∀ W, Below w.heap.size w W → W.cell? ⟨ge, oe + i * 3 + 2, none⟩ = some (.slice Ai ni ci)) := Lib.hid (HS0.out.two hlt e2 (below_trans2 HB1.out L0.out.old))
        clear hz
        have hpc := k_place_ex ve 9 (by decide) (by decide)
        go_upto_region 11 with ((go_at_call 12; (with_reducible refine (hpc _).mono ?_); rintro e w4 ⟨z, hz0, hz8, rfl, rfl⟩))
        clear hpc e1
        go_upto_if 48 with fail
        go_cut [] (fun wc => ∃ (A2 : Int → List Int) (sw2 vb2 vv2 : Value) (ws2 : WL), ws2.length ≤ 6 * i + 6 ∧ Hid (WOk ws2) ∧ Hid (Six A2) ∧ Hid (Lo wa lo hi b rb hq A2 A2 [bx gp TP #[.pointer (some ⟨b, 0, none⟩), .pointer (some ⟨rb, 0, none⟩)], lM g (.slice As 6 cs) sw2 ws2, qM y vb2 vv2 ws2] wc))
        case first =>
          cases d with
          | false =>
            have hbl := l_blocks (cap := ci) HZ.out (below_trans2 HB1.out L0.out.old)
            have hbz := blkF_len zi
            have had : ∀ w5 Ao m co, (blkF zi).length = m → Lo wa lo hi b rb hq A1 A1 [bx gp TP #[.pointer (some ⟨b, 0, none⟩), .pointer (some ⟨rb, 0, none⟩)], lM g (.slice As 6 cs) sw ws, qM y vb vv ws, rv TI 1 (.slice Ao m co) m (is (blkF zi))] w5 → Calls Try.prog 52 #[.pointer (some ⟨g, 0, none⟩), .int .i64 z, .slice Ao m co] w5 _ := fun w5 Ao m co hm h => x_add (i := 1) (z := z) h rfl (rdb_of (j := 3) rfl (by decide) (fun W hh => rdr_own (T := TI) (B := 0) (by rw [hm]; exact hh))) (by omega)
            have hLo : ∀ w5 Ao m co, w5.ownsRow wr.heap.size TI 1 (.slice Ao m co) m (is (blkF zi)) → Below wr.heap.size wr w5 → Lo wa lo hi b rb hq A1 A1 [bx gp TP #[.pointer (some ⟨b, 0, none⟩), .pointer (some ⟨rb, 0, none⟩)], lM g (.slice As 6 cs) sw ws, qM y vb vv ws, rv TI 1 (.slice Ao m co) m (is (blkF zi))] w5 := fun w5 Ao m co ho hb => L0.out.add hb (own_low ho) fun x hx => (World.ownsRow.lt ho x (blk_mem hx)).1
            go_upto_region 13 with (first | (go_at_call 53; (with_reducible refine hbl.mono ?_); rintro e w5 ⟨Ao, m, co, rfl, hm, ho, hbo⟩; have had := had _ _ _ _ hm (hLo _ _ _ _ ho hbo)) | (go_at_call 52; (with_reducible refine had.mono ?_); rintro e w6 ⟨rfl, sw2, hL6⟩))
            have L1 : Hid (Lo wa lo hi b rb hq A1 A1 [bx gp TP #[.pointer (some ⟨b, 0, none⟩), .pointer (some ⟨rb, 0, none⟩)], lM g (.slice As 6 cs) sw2 ((ws ++ adds z (blkF zi))), qM y vb vv ws] w6) := Lib.hid (Lo.drop (ex := [bx gp TP #[.pointer (some ⟨b, 0, none⟩), .pointer (some ⟨rb, 0, none⟩)], lM g (.slice As 6 cs) sw2 ((ws ++ adds z (blkF zi))), qM y vb vv ws]) hL6)
            clear hL6 had hLo hbl ho hbo hm
            have e2b : w6.cell? ⟨ge, oe + i * 3 + 2, none⟩ = some (.slice Ai ni ci) := HE2.out _ (below_trans2 HB1.out L1.out.old)
            have hbl := l_blocks (cap := ci) HZ.out (below_trans2 HB1.out L1.out.old)
            have had : ∀ w5 Ao m co, (blkF zi).length = m → Lo wa lo hi b rb hq A1 A1 [bx gp TP #[.pointer (some ⟨b, 0, none⟩), .pointer (some ⟨rb, 0, none⟩)], lM g (.slice As 6 cs) sw2 ((ws ++ adds z (blkF zi))), qM y vb vv ws, rv TI 1 (.slice Ao m co) m (is (blkF zi))] w5 → Calls Try.prog 54 #[.pointer (some ⟨y, 0, none⟩), .int .i64 z, .slice Ao m co] w5 _ := fun w5 Ao m co hm h => y_add (i := 2) (z := z) h rfl (rdb_of (j := 3) rfl (by decide) (fun W hh => rdr_own (T := TI) (B := 0) (by rw [hm]; exact hh))) (by omega)
            have hLo : ∀ w5 Ao m co, w5.ownsRow w6.heap.size TI 1 (.slice Ao m co) m (is (blkF zi)) → Below w6.heap.size w6 w5 → Lo wa lo hi b rb hq A1 A1 [bx gp TP #[.pointer (some ⟨b, 0, none⟩), .pointer (some ⟨rb, 0, none⟩)], lM g (.slice As 6 cs) sw2 ((ws ++ adds z (blkF zi))), qM y vb vv ws, rv TI 1 (.slice Ao m co) m (is (blkF zi))] w5 := fun w5 Ao m co ho hb => L1.out.add hb (own_low ho) fun x hx => (World.ownsRow.lt ho x (blk_mem hx)).1
            go_wp2_with (first | (go_at_call 53; (with_reducible refine hbl.mono ?_); rintro e w7 ⟨Ao, m, co, rfl, hm, ho, hbo⟩; have had := had _ _ _ _ hm (hLo _ _ _ _ ho hbo)) | (go_at_call 54; (with_reducible refine had.mono ?_); rintro e w8 ⟨rfl, vb2, vv2, hL8⟩))
            have L2 : Hid (Lo wa lo hi b rb hq A1 A1 [bx gp TP #[.pointer (some ⟨b, 0, none⟩), .pointer (some ⟨rb, 0, none⟩)], lM g (.slice As 6 cs) sw2 ((ws ++ adds z (blkF zi))), qM y vb2 vv2 ((ws ++ adds z (blkF zi)))] w8) := Lib.hid (Lo.drop (ex := [bx gp TP #[.pointer (some ⟨b, 0, none⟩), .pointer (some ⟨rb, 0, none⟩)], lM g (.slice As 6 cs) sw2 ((ws ++ adds z (blkF zi))), qM y vb2 vv2 ((ws ++ adds z (blkF zi)))]) hL8)
            have hwl2 : (ws ++ adds z (blkF zi)).length ≤ 6 * i + 6 := by rw [List.length_append]; have := adds_len z (blkF zi); omega
            have HW2 : Hid (WOk (ws ++ adds z (blkF zi))) := Lib.hid (HW.out.app (wok_adds _ _))
            clear hL8 had hLo hbl ho hbo hm L1 L0
            go_meet
            exact ⟨A1, sw2, vb2, vv2, _, hwl2, HW2, HS6, L2⟩
          | true =>
            have hdr := x_drain (i := 1) (z := z) L0.out rfl (by omega) HW.out
            have htk : ∀ w6 gd vd ps s3 w7, Lo wa lo hi b rb hq A1 A1 [bx gp TP #[.pointer (some ⟨b, 0, none⟩), .pointer (some ⟨rb, 0, none⟩)], lM g (.slice As 6 cs) s3 ((kp z ws)), qM y vb vv ws, dM gd vd ps 0 0] w6 → Below w6.heap.size w6 w7 → Calls Try.prog 57 #[.pointer (some ⟨y, 0, none⟩), .int .i64 z] w7 _ := fun w6 gd vd ps s3 w7 h hb => y_take (i := 2) (z := z) (h.below hb) rfl (by omega)
            have hnd : ∀ w8 gd vd ps s3 At ct vb3 vv3, Lo wa lo hi b rb hq A1 A1 [bx gp TP #[.pointer (some ⟨b, 0, none⟩), .pointer (some ⟨rb, 0, none⟩)], lM g (.slice As 6 cs) s3 ((kp z ws)), qM y vb3 vv3 ((kp z ws)), dM gd vd ps 0 0, rv TI 1 (.slice At (tk z ws).length ct) (tk z ws).length (is (bsI (tk z ws)))] w8 → Calls Try.prog 56 #[.agg #[.int .i64 20, .int .i64 4, .int .i64 1, .int .i64 3, .int .i64 2, .int .i64 1, .int .i64 0, .int .i64 1, .int .i64 1, .int .i64 0, .int .i64 0, .int .i64 0, .bool false], .slice At (tk z ws).length ct] w8 _ := fun w8 gd vd ps s3 At ct vb3 vv3 h => y_new (ex := [bx gp TP #[.pointer (some ⟨b, 0, none⟩), .pointer (some ⟨rb, 0, none⟩)], lM g (.slice As 6 cs) s3 ((kp z ws)), qM y vb3 vv3 ((kp z ws)), dM gd vd ps 0 0]) h rfl (wok_tk HW.out)
            go_upto_region 15 with (first | (go_at_call 55; (with_reducible refine hdr.mono ?_); rintro e w6 ⟨gd, vd, ps, s3, rfl, hps, hL6⟩) | (go_at_call 49; (with_reducible refine (l_heap18 _).mono ?_); rintro e w7 ⟨rfl, hb7⟩; have htk := htk _ _ _ _ _ _ hL6 hb7) | (go_at_call 57; (with_reducible refine htk.mono ?_); rintro e w8 ⟨At, ct, vb3, vv3, rfl, hL8⟩; have hnd := hnd _ _ _ _ _ _ _ _ _ hL8) | (go_at_call 56; (with_reducible refine hnd.mono ?_); rintro e w9 ⟨yr, po, rfl, hL9⟩))
            have hwt : ps.map Prod.snd = (tk z ws).map Prod.fst := hps
            rw [← hwt] at hL9
            have L1 : Hid (Lo wa lo hi b rb hq A1 A1 [bx gp TP #[.pointer (some ⟨b, 0, none⟩), .pointer (some ⟨rb, 0, none⟩)], lM g (.slice As 6 cs) s3 ((kp z ws)), qM y vb3 vv3 ((kp z ws)), dM gd vd ps 0 0, rM yr ((.slice At (tk z ws).length ct)) po ((ps.map Prod.snd)) 0 0] w9) := Lib.hid hL9
            have HK : Hid (Dk A1 (ps.map Prod.snd) 0 0) := Lib.hid (by rw [hwt]; exact dk_tk HS6.out HW.out)
            clear hL9 hL8 hL6 hb7 hnd htk hdr hps hwt L0
            go_wp2_with fail
            go_loopw [11] (fun jv wr => ∃ (j : Nat) (A2 : Int → List Int) (v2 vr : Value) (po : Option Addr) (p2 : PL) (st : Nat) (x : Int), j ≤ 12 ∧ jv = .int .i64 j ∧ Hid (Dk A2 (p2.map Prod.snd) st x) ∧ Hid (Lo wa lo hi b rb hq A2 A2 [bx gp TP #[.pointer (some ⟨b, 0, none⟩), .pointer (some ⟨rb, 0, none⟩)], lM g (.slice As 6 cs) s3 ((kp z ws)), qM y vb3 vv3 ((kp z ws)), dM gd v2 p2 st x, rM yr vr po ((p2.map Prod.snd)) st x] wr)) (fun jv _ => 12 - (intOf jv).toNat)
            case atStart => exact ⟨0, A1, vd, _, po, ps, 0, 0, by omega, rfl, HK, L1⟩
            case round =>
              clear L1 HK HS6
              obtain ⟨j, A2, v2, vr, pq, p2, st, x, hj12, rfl, HK, L0⟩ := hrel
              by_cases hlj : j < 12
              · have hljI : (j : Int) < 12 := by omega
                obtain ⟨pr0, cr, hvr, _⟩ := rM_box (i := 4) L0.out rfl
                obtain ⟨nr, hnr⟩ : ∃ nr, p2.length = nr := ⟨_, rfl⟩
                rw [List.length_map, hnr] at hvr
                subst hvr
                have HNR := Lib.hid hnr
                clear hnr
                obtain ⟨D, hD⟩ : ∃ D, decide (p2.length = 0) = D := ⟨_, rfl⟩
                have HD := Lib.hid hD
                have HD2 : Hid (decide ((p2.map Prod.snd).length = 0) = D) := Lib.hid (by rw [List.length_map]; exact hD)
                clear hD
                obtain ⟨k1, k2, k3, k4, k5, d, hac⟩ := dC_ex A2 (p2.map Prod.snd) st x
                obtain ⟨A', hA'⟩ : ∃ A', dA A2 (p2.map Prod.snd) st x = A' := ⟨_, rfl⟩
                have HK2 : Hid (Dk A' ((dB p2 st).map Prod.snd) (dS p2 st) (dX A2 (p2.map Prod.snd) st x)) := Lib.hid (by have := HK.out.next; rw [hA', dB_map, dS_map] at this; exact this)
                obtain ⟨P0, P1, P2, h00, hcb, hcg, hd1, hd2, hle, hs1, hs2, hsm, hfin⟩ : ∃ P0 P1 P2 : World → Prop, Hid (P0 wr.drew) ∧ Hid (∀ u, P0 u → u.cell? ⟨yr, 13, none⟩ = some (.slice pr0 nr cr)) ∧ Hid (∀ u, P0 u ∨ P1 u ∨ P2 u → (u.cell? ⟨gp, 0, none⟩ = some (.pointer (some ⟨b, 0, none⟩)) ∧ u.cell? ⟨gp, 1, none⟩ = some (.pointer (some ⟨rb, 0, none⟩)))) ∧ Hid (∀ u, P0 u → Calls Try.prog 58 #[.pointer (some ⟨gd, 0, none⟩)] u fun e u' => e = .returned (.bool D) ∧ u = u') ∧ Hid (∀ u, P0 u → Calls Try.prog 59 #[.pointer (some ⟨yr, 0, none⟩)] u fun e u' => e = .returned (.bool D) ∧ u = u') ∧ Hid (∀ u, P0 u → Calls Try.prog 60 #[.pointer (some ⟨gd, 0, none⟩)] u fun e u' => e = .returned (.int .i64 nr) ∧ u = u') ∧ Hid (∀ u, P0 u → Calls Try.prog 61 #[.pointer (some ⟨gd, 0, none⟩), .pointer (some ⟨b, 0, none⟩)] u fun e u' => e = .returned (accV k1 k2 k3 k4 k5 d) ∧ P1 u') ∧ Hid (∀ u, P1 u → Calls Try.prog 62 #[.pointer (some ⟨yr, 0, none⟩), .pointer (some ⟨rb, 0, none⟩)] u fun e u' => e = .returned (accV k1 k2 k3 k4 k5 d) ∧ P2 u') ∧ Hid (∀ u, P2 u → Calls Try.prog 29 #[pairV b rb] u fun e u' => e = .returned (.bool true) ∧ P2 u') ∧ Hid (∀ u, P2 u → ∃ x1 x2 x3, Lo wa lo hi b rb hq A' A' [bx gp TP #[.pointer (some ⟨b, 0, none⟩), .pointer (some ⟨rb, 0, none⟩)], lM g (.slice As 6 cs) s3 ((kp z ws)), qM y vb3 vv3 ((kp z ws)), dM gd x1 (dB p2 st) (dS p2 st) (dX A2 (p2.map Prod.snd) st x), rM yr x2 x3 ((dB p2 st).map Prod.snd) (dS p2 st) (dX A2 (p2.map Prod.snd) st x)] u) := by
                  refine ⟨fun u => Lo wa lo hi b rb hq A2 A2 [bx gp TP #[.pointer (some ⟨b, 0, none⟩), .pointer (some ⟨rb, 0, none⟩)], lM g (.slice As 6 cs) s3 ((kp z ws)), qM y vb3 vv3 ((kp z ws)), dM gd v2 p2 st x, rM yr ((.slice pr0 nr cr)) pq ((p2.map Prod.snd)) st x] u, fun u => ∃ x1, Lo wa lo hi b rb hq A' A2 [bx gp TP #[.pointer (some ⟨b, 0, none⟩), .pointer (some ⟨rb, 0, none⟩)], lM g (.slice As 6 cs) s3 ((kp z ws)), qM y vb3 vv3 ((kp z ws)), dM gd x1 (dB p2 st) (dS p2 st) (dX A2 (p2.map Prod.snd) st x), rM yr ((.slice pr0 nr cr)) pq ((p2.map Prod.snd)) st x] u, fun u => ∃ x1 x2 x3, Lo wa lo hi b rb hq A' A' [bx gp TP #[.pointer (some ⟨b, 0, none⟩), .pointer (some ⟨rb, 0, none⟩)], lM g (.slice As 6 cs) s3 ((kp z ws)), qM y vb3 vv3 ((kp z ws)), dM gd x1 (dB p2 st) (dS p2 st) (dX A2 (p2.map Prod.snd) st x), rM yr x2 x3 ((dB p2 st).map Prod.snd) (dS p2 st) (dX A2 (p2.map Prod.snd) st x)] u, Lib.hid L0.out.drew, Lib.hid fun u h => ?_, Lib.hid fun u h => ?_, Lib.hid fun u h => dx_done (i := 3) h rfl HD, Lib.hid fun u h => ry_done (i := 4) h rfl HD2, Lib.hid fun u h => dx_left (i := 3) h rfl (Lib.hid (by rw [HNR.out])), Lib.hid fun u h => ?_, Lib.hid fun u h => ?_, Lib.hid fun u h => ?_, Lib.hid fun u h => h⟩
                  · obtain ⟨p9, c9, e9, M9⟩ := rM_box (i := 4) h rfl
                    rw [← e9] at M9
                    exact M9.cell 13
                  · rcases h with h | ⟨_, h⟩ | ⟨_, _, _, h⟩
                    all_goals exact ⟨h.c 0 0 rfl rfl, h.c 0 1 rfl rfl⟩
                  · exact dx_step (i := 3) h rfl HK.out (Lib.hid hac) (Lib.hid hA')
                  · obtain ⟨x1, h⟩ := h
                    refine (ry_step (i := 4) h rfl HK.out (Lib.hid hac) (Lib.hid hA')).mono fun e u' hh => ⟨hh.1, x1, ?_⟩
                    obtain ⟨x2, x3, h2⟩ := hh.2
                    rw [dB_map, dS_map] at h2
                    exact ⟨x2, x3, h2⟩
                  · obtain ⟨x1, x2, x3, h⟩ := h
                    exact (lo_same h).mono fun e u' hh => ⟨hh.1, x1, x2, x3, hh.2⟩
                have hDD : (D != D) = false := by cases D <;> rfl
                have hzz : ((nr : Int) != (nr : Int)) = false := by simp
                clear hac hA' HD HD2 HK HNR
                go_upto_region 20 with (fail)
                clear L0
                refine Rgn.region_lists (by kernel_rfl) [some 81, some 82, some 83, some 84, some 85, some 86, some 87, some 88, some 89, some 90, some 91, some 92, some 93, some 94, some 95, some 96, some 97, some 98, some 99, some 100, some 101, some 102, some 103, some 104, some 105, some 106, some 107, some 108, some 109, some 110, some 111]
                  (fun gh => [.pointer (some ⟨gd, 0, none⟩), .bool D, .pointer (some ⟨yr, 0, none⟩), .bool D, .bool false, .bool false, .pointer (some ⟨gd, 0, none⟩), .int .i64 nr, .pointer (some ⟨yr, 0, none⟩), .pointer (some ⟨yr, 0, none⟩), .pointer (some ⟨yr, 13, none⟩), .slice pr0 nr cr, .int .i64 nr, .bool false, .bool false, .bool false, .pointer (some ⟨gd, 0, none⟩), .pointer (some ⟨gp, 0, none⟩), .pointer (some ⟨b, 0, none⟩), accV k1 k2 k3 k4 k5 d, .pointer (some ⟨yr, 0, none⟩), .pointer (some ⟨gp, 1, none⟩), .pointer (some ⟨rb, 0, none⟩), accV k1 k2 k3 k4 k5 d, .bool false, .bool false, .bool false, pairV b rb, .bool true, .bool false, .bool false])
                  (fun (gh : Unit) L w9 => Ts P0 P1 P2 (L 19) (L 23) w9) () 31 131 (by kernel_rfl) (by kernel_rfl) (fun _ => rfl) (by kernel_rfl) (by kernel_rfl) h00.out ?_ ?_
                · intro i hi gh L a wq hS hLi hup hdn hold hv K hK
                  have hi' : i = 0 ∨ i = 1 ∨ i = 2 ∨ i = 3 ∨ i = 4 ∨ i = 5 ∨ i = 6 ∨ i = 7 ∨ i = 8 ∨ i = 9 ∨ i = 10 ∨ i = 11 ∨ i = 12 ∨ i = 13 ∨ i = 14 ∨ i = 15 ∨ i = 16 ∨ i = 17 ∨ i = 18 ∨ i = 19 ∨ i = 20 ∨ i = 21 ∨ i = 22 ∨ i = 23 ∨ i = 24 ∨ i = 25 ∨ i = 26 ∨ i = 27 ∨ i = 28 ∨ i = 29 ∨ i = 30 := by omega
                  clear hi
                  rcases hi' with rfl | rfl | rfl | rfl | rfl | rfl | rfl | rfl | rfl | rfl | rfl | rfl | rfl | rfl | rfl | rfl | rfl | rfl | rfl | rfl | rfl | rfl | rfl | rfl | rfl | rfl | rfl | rfl | rfl | rfl | rfl
                  · have q9 : a.tmps[9]?.getD undef = .pointer (some ⟨gd, 0, none⟩) := (hold 9 (by kernel_rfl)).trans (by kernel_rfl)
                    have HS := Lib.hid hS
                    clear hS hup hdn hold hv hLi
                    refine Rgn.op_of rfl rfl ?_
                    go_simp
                    exact hK () _ (fun _ _ _ => rfl) HS.out
                  · have q81 : a.tmps[81]?.getD undef = .pointer (some ⟨gd, 0, none⟩) := hv 0 81 (by kernel_rfl) (by kernel_rfl)
                    have z19 : L 19 = false := hdn 19 rfl (by kernel_rfl)
                    have h0 : Ts P0 P1 P2 (L 19) (L 23) wq := hS
                    rw [z19] at h0
                    have h1 : P0 wq := h0
                    have hc := hd1.out wq h1
                    have HS := Lib.hid hS
                    clear hS hup hdn hold hv hLi
                    refine Rgn.op_of rfl rfl ?_
                    go_simp
                    go_at_call 58
                    (with_reducible refine hc.mono ?_)
                    rintro e w5 ⟨rfl, rfl⟩
                    exact hK () _ (fun _ _ _ => rfl) HS.out
                  · have q10 : a.tmps[10]?.getD undef = .pointer (some ⟨yr, 0, none⟩) := (hold 10 (by kernel_rfl)).trans (by kernel_rfl)
                    have HS := Lib.hid hS
                    clear hS hup hdn hold hv hLi
                    refine Rgn.op_of rfl rfl ?_
                    go_simp
                    exact hK () _ (fun _ _ _ => rfl) HS.out
                  · have q83 : a.tmps[83]?.getD undef = .pointer (some ⟨yr, 0, none⟩) := hv 2 83 (by kernel_rfl) (by kernel_rfl)
                    have z19 : L 19 = false := hdn 19 rfl (by kernel_rfl)
                    have h0 : Ts P0 P1 P2 (L 19) (L 23) wq := hS
                    rw [z19] at h0
                    have h1 : P0 wq := h0
                    have hc := hd2.out wq h1
                    have HS := Lib.hid hS
                    clear hS hup hdn hold hv hLi
                    refine Rgn.op_of rfl rfl ?_
                    go_simp
                    go_at_call 59
                    (with_reducible refine hc.mono ?_)
                    rintro e w5 ⟨rfl, rfl⟩
                    exact hK () _ (fun _ _ _ => rfl) HS.out
                  · have q82 : a.tmps[82]?.getD undef = .bool D := hv 1 82 (by kernel_rfl) (by kernel_rfl)
                    have q84 : a.tmps[84]?.getD undef = .bool D := hv 3 84 (by kernel_rfl) (by kernel_rfl)
                    have HS := Lib.hid hS
                    clear hS hup hdn hold hv hLi
                    refine Rgn.op_of rfl rfl ?_
                    go_simp
                    exact hK () _ (fun _ _ _ => rfl) HS.out
                  · have q85 : a.tmps[85]?.getD undef = .bool false := hv 4 85 (by kernel_rfl) (by kernel_rfl)
                    have HS := Lib.hid hS
                    clear hS hup hdn hold hv hLi
                    refine Rgn.op_of rfl rfl ?_
                    go_simp
                    exact hK () _ (fun _ _ _ => rfl) HS.out
                  · have q9 : a.tmps[9]?.getD undef = .pointer (some ⟨gd, 0, none⟩) := (hold 9 (by kernel_rfl)).trans (by kernel_rfl)
                    have hgd : a.tmps[86]?.getD undef = .bool false := hv 5 86 (by kernel_rfl) (by kernel_rfl)
                    have HS := Lib.hid hS
                    clear hS hup hdn hold hv hLi
                    refine Rgn.op_of_guard (j := 5) (d := 86) (b := false) rfl rfl (by kernel_rfl) hgd ?_
                    clear hgd
                    go_simp
                    exact hK () _ (fun _ _ _ => rfl) HS.out
                  · have q87 : a.tmps[87]?.getD undef = .pointer (some ⟨gd, 0, none⟩) := hv 6 87 (by kernel_rfl) (by kernel_rfl)
                    have hgd : a.tmps[86]?.getD undef = .bool false := hv 5 86 (by kernel_rfl) (by kernel_rfl)
                    have z19 : L 19 = false := hdn 19 rfl (by kernel_rfl)
                    have h0 : Ts P0 P1 P2 (L 19) (L 23) wq := hS
                    rw [z19] at h0
                    have h1 : P0 wq := h0
                    have hc := hle.out wq h1
                    have HS := Lib.hid hS
                    clear hS hup hdn hold hv hLi
                    refine Rgn.op_of_guard (j := 5) (d := 86) (b := false) rfl rfl (by kernel_rfl) hgd ?_
                    clear hgd
                    go_simp
                    go_at_call 60
                    (with_reducible refine hc.mono ?_)
                    rintro e w5 ⟨rfl, rfl⟩
                    exact hK () _ (fun _ _ _ => rfl) HS.out
                  · have q10 : a.tmps[10]?.getD undef = .pointer (some ⟨yr, 0, none⟩) := (hold 10 (by kernel_rfl)).trans (by kernel_rfl)
                    have hgd : a.tmps[86]?.getD undef = .bool false := hv 5 86 (by kernel_rfl) (by kernel_rfl)
                    have HS := Lib.hid hS
                    clear hS hup hdn hold hv hLi
                    refine Rgn.op_of_guard (j := 5) (d := 86) (b := false) rfl rfl (by kernel_rfl) hgd ?_
                    clear hgd
                    go_simp
                    exact hK () _ (fun _ _ _ => rfl) HS.out
                  · have q89 : a.tmps[89]?.getD undef = .pointer (some ⟨yr, 0, none⟩) := hv 8 89 (by kernel_rfl) (by kernel_rfl)
                    have hgd : a.tmps[86]?.getD undef = .bool false := hv 5 86 (by kernel_rfl) (by kernel_rfl)
                    have HS := Lib.hid hS
                    clear hS hup hdn hold hv hLi
                    refine Rgn.op_of_guard (j := 5) (d := 86) (b := false) rfl rfl (by kernel_rfl) hgd ?_
                    clear hgd
                    go_simp
                    exact hK () _ (fun _ _ _ => rfl) HS.out
                  · have q90 : a.tmps[90]?.getD undef = .pointer (some ⟨yr, 0, none⟩) := hv 9 90 (by kernel_rfl) (by kernel_rfl)
                    have hgd : a.tmps[86]?.getD undef = .bool false := hv 5 86 (by kernel_rfl) (by kernel_rfl)
                    have HS := Lib.hid hS
                    clear hS hup hdn hold hv hLi
                    refine Rgn.op_of_guard (j := 5) (d := 86) (b := false) rfl rfl (by kernel_rfl) hgd ?_
                    clear hgd
                    go_simp
                    exact hK () _ (fun _ _ _ => rfl) HS.out
                  · have q91 : a.tmps[91]?.getD undef = .pointer (some ⟨yr, 13, none⟩) := hv 10 91 (by kernel_rfl) (by kernel_rfl)
                    have hgd : a.tmps[86]?.getD undef = .bool false := hv 5 86 (by kernel_rfl) (by kernel_rfl)
                    have z19 : L 19 = false := hdn 19 rfl (by kernel_rfl)
                    have h0 : Ts P0 P1 P2 (L 19) (L 23) wq := hS
                    rw [z19] at h0
                    have h1 : P0 wq := h0
                    have hc1 := hcb.out wq h1
                    clear h0 h1 z19
                    have HS := Lib.hid hS
                    clear hS hup hdn hold hv hLi
                    refine Rgn.op_of_guard (j := 5) (d := 86) (b := false) rfl rfl (by kernel_rfl) hgd ?_
                    clear hgd
                    go_simp
                    exact hK () _ (fun _ _ _ => rfl) HS.out
                  · have q92 : a.tmps[92]?.getD undef = .slice pr0 nr cr := hv 11 92 (by kernel_rfl) (by kernel_rfl)
                    have hgd : a.tmps[86]?.getD undef = .bool false := hv 5 86 (by kernel_rfl) (by kernel_rfl)
                    have HS := Lib.hid hS
                    clear hS hup hdn hold hv hLi
                    refine Rgn.op_of_guard (j := 5) (d := 86) (b := false) rfl rfl (by kernel_rfl) hgd ?_
                    clear hgd
                    go_simp
                    exact hK () _ (fun _ _ _ => rfl) HS.out
                  · have q88 : a.tmps[88]?.getD undef = .int .i64 nr := hv 7 88 (by kernel_rfl) (by kernel_rfl)
                    have q93 : a.tmps[93]?.getD undef = .int .i64 nr := hv 12 93 (by kernel_rfl) (by kernel_rfl)
                    have hgd : a.tmps[86]?.getD undef = .bool false := hv 5 86 (by kernel_rfl) (by kernel_rfl)
                    have HS := Lib.hid hS
                    clear hS hup hdn hold hv hLi
                    refine Rgn.op_of_guard (j := 5) (d := 86) (b := false) rfl rfl (by kernel_rfl) hgd ?_
                    clear hgd
                    go_simp
                    exact hK () _ (fun _ _ _ => rfl) HS.out
                  · have q86 : a.tmps[86]?.getD undef = .bool false := hv 5 86 (by kernel_rfl) (by kernel_rfl)
                    have q94 : a.tmps[94]?.getD undef = .bool false := hv 13 94 (by kernel_rfl) (by kernel_rfl)
                    have HS := Lib.hid hS
                    clear hS hup hdn hold hv hLi
                    refine Rgn.op_of rfl rfl ?_
                    go_simp
                    exact hK () _ (fun _ _ _ => rfl) HS.out
                  · have q95 : a.tmps[95]?.getD undef = .bool false := hv 14 95 (by kernel_rfl) (by kernel_rfl)
                    have HS := Lib.hid hS
                    clear hS hup hdn hold hv hLi
                    refine Rgn.op_of rfl rfl ?_
                    go_simp
                    exact hK () _ (fun _ _ _ => rfl) HS.out
                  · have q9 : a.tmps[9]?.getD undef = .pointer (some ⟨gd, 0, none⟩) := (hold 9 (by kernel_rfl)).trans (by kernel_rfl)
                    have hgd : a.tmps[96]?.getD undef = .bool false := hv 15 96 (by kernel_rfl) (by kernel_rfl)
                    have HS := Lib.hid hS
                    clear hS hup hdn hold hv hLi
                    refine Rgn.op_of_guard (j := 15) (d := 96) (b := false) rfl rfl (by kernel_rfl) hgd ?_
                    clear hgd
                    go_simp
                    exact hK () _ (fun _ _ _ => rfl) HS.out
                  · have q3 : a.tmps[3]?.getD undef = .pointer (some ⟨gp, 0, none⟩) := (hold 3 (by kernel_rfl)).trans (by kernel_rfl)
                    have hgd : a.tmps[96]?.getD undef = .bool false := hv 15 96 (by kernel_rfl) (by kernel_rfl)
                    have HS := Lib.hid hS
                    clear hS hup hdn hold hv hLi
                    refine Rgn.op_of_guard (j := 15) (d := 96) (b := false) rfl rfl (by kernel_rfl) hgd ?_
                    clear hgd
                    go_simp
                    exact hK () _ (fun _ _ _ => rfl) HS.out
                  · have q98 : a.tmps[98]?.getD undef = .pointer (some ⟨gp, 0, none⟩) := hv 17 98 (by kernel_rfl) (by kernel_rfl)
                    have hgd : a.tmps[96]?.getD undef = .bool false := hv 15 96 (by kernel_rfl) (by kernel_rfl)
                    have h0 : Ts P0 P1 P2 (L 19) (L 23) wq := hS
                    have h1 := ts_any h0
                    have hc1 := (hcg.out wq h1).1
                    have hc2 := (hcg.out wq h1).2
                    clear h0 h1
                    have HS := Lib.hid hS
                    clear hS hup hdn hold hv hLi
                    refine Rgn.op_of_guard (j := 15) (d := 96) (b := false) rfl rfl (by kernel_rfl) hgd ?_
                    clear hgd
                    go_simp
                    exact hK () _ (fun _ _ _ => rfl) HS.out
                  · have q97 : a.tmps[97]?.getD undef = .pointer (some ⟨gd, 0, none⟩) := hv 16 97 (by kernel_rfl) (by kernel_rfl)
                    have q99 : a.tmps[99]?.getD undef = .pointer (some ⟨b, 0, none⟩) := hv 18 99 (by kernel_rfl) (by kernel_rfl)
                    have hgd : a.tmps[96]?.getD undef = .bool false := hv 15 96 (by kernel_rfl) (by kernel_rfl)
                    have z19 : L 19 = false := hLi
                    have z23 : L 23 = false := hdn 23 rfl (by kernel_rfl)
                    have h0 : Ts P0 P1 P2 (L 19) (L 23) wq := hS
                    rw [z19] at h0
                    have h1 : P0 wq := h0
                    have hc := hs1.out wq h1
                    have HS := Lib.hid hS
                    clear hS hup hdn hold hv hLi
                    refine Rgn.op_of_guard (j := 15) (d := 96) (b := false) rfl rfl (by kernel_rfl) hgd ?_
                    clear hgd
                    go_simp
                    go_at_call 61
                    (with_reducible refine hc.mono ?_)
                    rintro e w5 ⟨rfl, h2⟩
                    refine hK () _ (fun _ _ _ => rfl) ?_
                    show Ts P0 P1 P2 (Rgn.mark L 19 19) (Rgn.mark L 19 23) _
                    rw [Rgn.mark_self, Rgn.mark_ne (show 23 ≠ 19 by decide), z23]
                    exact h2
                  · have q10 : a.tmps[10]?.getD undef = .pointer (some ⟨yr, 0, none⟩) := (hold 10 (by kernel_rfl)).trans (by kernel_rfl)
                    have hgd : a.tmps[96]?.getD undef = .bool false := hv 15 96 (by kernel_rfl) (by kernel_rfl)
                    have HS := Lib.hid hS
                    clear hS hup hdn hold hv hLi
                    refine Rgn.op_of_guard (j := 15) (d := 96) (b := false) rfl rfl (by kernel_rfl) hgd ?_
                    clear hgd
                    go_simp
                    exact hK () _ (fun _ _ _ => rfl) HS.out
                  · have q3 : a.tmps[3]?.getD undef = .pointer (some ⟨gp, 0, none⟩) := (hold 3 (by kernel_rfl)).trans (by kernel_rfl)
                    have hgd : a.tmps[96]?.getD undef = .bool false := hv 15 96 (by kernel_rfl) (by kernel_rfl)
                    have HS := Lib.hid hS
                    clear hS hup hdn hold hv hLi
                    refine Rgn.op_of_guard (j := 15) (d := 96) (b := false) rfl rfl (by kernel_rfl) hgd ?_
                    clear hgd
                    go_simp
                    exact hK () _ (fun _ _ _ => rfl) HS.out
                  · have q102 : a.tmps[102]?.getD undef = .pointer (some ⟨gp, 1, none⟩) := hv 21 102 (by kernel_rfl) (by kernel_rfl)
                    have hgd : a.tmps[96]?.getD undef = .bool false := hv 15 96 (by kernel_rfl) (by kernel_rfl)
                    have h0 : Ts P0 P1 P2 (L 19) (L 23) wq := hS
                    have h1 := ts_any h0
                    have hc1 := (hcg.out wq h1).1
                    have hc2 := (hcg.out wq h1).2
                    clear h0 h1
                    have HS := Lib.hid hS
                    clear hS hup hdn hold hv hLi
                    refine Rgn.op_of_guard (j := 15) (d := 96) (b := false) rfl rfl (by kernel_rfl) hgd ?_
                    clear hgd
                    go_simp
                    exact hK () _ (fun _ _ _ => rfl) HS.out
                  · have q101 : a.tmps[101]?.getD undef = .pointer (some ⟨yr, 0, none⟩) := hv 20 101 (by kernel_rfl) (by kernel_rfl)
                    have q103 : a.tmps[103]?.getD undef = .pointer (some ⟨rb, 0, none⟩) := hv 22 103 (by kernel_rfl) (by kernel_rfl)
                    have hgd : a.tmps[96]?.getD undef = .bool false := hv 15 96 (by kernel_rfl) (by kernel_rfl)
                    have z19 : L 19 = true := hup 19 (by kernel_rfl)
                    have z23 : L 23 = false := hLi
                    have h0 : Ts P0 P1 P2 (L 19) (L 23) wq := hS
                    rw [z19, z23] at h0
                    have h1 : P1 wq := h0
                    have hc := hs2.out wq h1
                    have HS := Lib.hid hS
                    clear hS hup hdn hold hv hLi
                    refine Rgn.op_of_guard (j := 15) (d := 96) (b := false) rfl rfl (by kernel_rfl) hgd ?_
                    clear hgd
                    go_simp
                    go_at_call 62
                    (with_reducible refine hc.mono ?_)
                    rintro e w5 ⟨rfl, h2⟩
                    refine hK () _ (fun _ _ _ => rfl) ?_
                    show Ts P0 P1 P2 (Rgn.mark L 23 19) (Rgn.mark L 23 23) _
                    rw [Rgn.mark_self, Rgn.mark_ne (show 19 ≠ 23 by decide), z19]
                    exact h2
                  · have q100 : a.tmps[100]?.getD undef = accV k1 k2 k3 k4 k5 d := hv 19 100 (by kernel_rfl) (by kernel_rfl)
                    have q104 : a.tmps[104]?.getD undef = accV k1 k2 k3 k4 k5 d := hv 23 104 (by kernel_rfl) (by kernel_rfl)
                    have hgd : a.tmps[96]?.getD undef = .bool false := hv 15 96 (by kernel_rfl) (by kernel_rfl)
                    have HS := Lib.hid hS
                    clear hS hup hdn hold hv hLi
                    refine Rgn.op_of_guard (j := 15) (d := 96) (b := false) rfl rfl (by kernel_rfl) hgd ?_
                    clear hgd
                    go_simp
                    exact hK () _ (fun _ _ _ => rfl) HS.out
                  · have q96 : a.tmps[96]?.getD undef = .bool false := hv 15 96 (by kernel_rfl) (by kernel_rfl)
                    have q105 : a.tmps[105]?.getD undef = .bool false := hv 24 105 (by kernel_rfl) (by kernel_rfl)
                    have HS := Lib.hid hS
                    clear hS hup hdn hold hv hLi
                    refine Rgn.op_of rfl rfl ?_
                    go_simp
                    exact hK () _ (fun _ _ _ => rfl) HS.out
                  · have q106 : a.tmps[106]?.getD undef = .bool false := hv 25 106 (by kernel_rfl) (by kernel_rfl)
                    have HS := Lib.hid hS
                    clear hS hup hdn hold hv hLi
                    refine Rgn.op_of rfl rfl ?_
                    go_simp
                    exact hK () _ (fun _ _ _ => rfl) HS.out
                  · have q3 : a.tmps[3]?.getD undef = .pointer (some ⟨gp, 0, none⟩) := (hold 3 (by kernel_rfl)).trans (by kernel_rfl)
                    have hgd : a.tmps[107]?.getD undef = .bool false := hv 26 107 (by kernel_rfl) (by kernel_rfl)
                    have h0 : Ts P0 P1 P2 (L 19) (L 23) wq := hS
                    have h1 := ts_any h0
                    have hc1 := (hcg.out wq h1).1
                    have hc2 := (hcg.out wq h1).2
                    clear h0 h1
                    have HS := Lib.hid hS
                    clear hS hup hdn hold hv hLi
                    refine Rgn.op_of_guard (j := 26) (d := 107) (b := false) rfl rfl (by kernel_rfl) hgd ?_
                    clear hgd
                    go_simp
                    exact hK () _ (fun _ _ _ => rfl) HS.out
                  · have q108 : a.tmps[108]?.getD undef = pairV b rb := hv 27 108 (by kernel_rfl) (by kernel_rfl)
                    have hgd : a.tmps[107]?.getD undef = .bool false := hv 26 107 (by kernel_rfl) (by kernel_rfl)
                    have z19 : L 19 = true := hup 19 (by kernel_rfl)
                    have z23 : L 23 = true := hup 23 (by kernel_rfl)
                    have h0 : Ts P0 P1 P2 (L 19) (L 23) wq := hS
                    rw [z19, z23] at h0
                    have h1 : P2 wq := h0
                    have hc := hsm.out wq h1
                    have HS := Lib.hid hS
                    clear hS hup hdn hold hv hLi
                    refine Rgn.op_of_guard (j := 26) (d := 107) (b := false) rfl rfl (by kernel_rfl) hgd ?_
                    clear hgd
                    go_simp
                    go_at_call 29
                    (with_reducible refine hc.mono ?_)
                    rintro e w5 ⟨rfl, h2⟩
                    refine hK () _ (fun _ _ _ => rfl) ?_
                    show Ts P0 P1 P2 (Rgn.mark L 28 19) (Rgn.mark L 28 23) _
                    rw [Rgn.mark_ne (show 19 ≠ 28 by decide), Rgn.mark_ne (show 23 ≠ 28 by decide), z19, z23]
                    exact h2
                  · have q109 : a.tmps[109]?.getD undef = .bool true := hv 28 109 (by kernel_rfl) (by kernel_rfl)
                    have hgd : a.tmps[107]?.getD undef = .bool false := hv 26 107 (by kernel_rfl) (by kernel_rfl)
                    have HS := Lib.hid hS
                    clear hS hup hdn hold hv hLi
                    refine Rgn.op_of_guard (j := 26) (d := 107) (b := false) rfl rfl (by kernel_rfl) hgd ?_
                    clear hgd
                    go_simp
                    exact hK () _ (fun _ _ _ => rfl) HS.out
                  · have q107 : a.tmps[107]?.getD undef = .bool false := hv 26 107 (by kernel_rfl) (by kernel_rfl)
                    have q110 : a.tmps[110]?.getD undef = .bool false := hv 29 110 (by kernel_rfl) (by kernel_rfl)
                    have HS := Lib.hid hS
                    clear hS hup hdn hold hv hLi
                    refine Rgn.op_of rfl rfl ?_
                    go_simp
                    exact hK () _ (fun _ _ _ => rfl) HS.out
                · intro gh L wq hall hS
                  have h0 : Ts P0 P1 P2 (L 19) (L 23) wq := hS
                  rw [hall 19 rfl, hall 23 rfl] at h0
                  have h1 : P2 wq := h0
                  obtain ⟨x1, x2, x3, hL⟩ := hfin.out wq h1
                  have L2 := Lib.hid hL
                  clear h0 h1 hL hS hall hcb hcg hd1 hd2 hle hs1 hs2 hsm hfin h00 hDD hzz
                  simp only [Rgn.putAll, Act.put]
                  go_simp
                  go_at_K
                  go_wp2_with fail
                  go_roundw
                  case rel => exact ⟨j + 1, A', x1, x2, x3, _, _, _, by omega, by go_num, HK2, L2⟩
                  case measure => (first | (simp [intOf]; omega) | simp [intOf])
              · have hje : j = 12 := by omega
                have hjeI : (12 : Int) ≤ j := by omega
                have LF : Hid (Lo wa lo hi b rb hq A2 A2 [bx gp TP #[.pointer (some ⟨b, 0, none⟩), .pointer (some ⟨rb, 0, none⟩)], lM g (.slice As 6 cs) s3 ((kp z ws)), qM y vb3 vv3 ((kp z ws))] wr) := Lib.hid (Lo.drop (ex := [bx gp TP #[.pointer (some ⟨b, 0, none⟩), .pointer (some ⟨rb, 0, none⟩)], lM g (.slice As 6 cs) s3 ((kp z ws)), qM y vb3 vv3 ((kp z ws))]) L0.out)
                have HSF : Hid (Six A2) := Lib.hid HK.out.six
                have hwl2 : (kp z ws).length ≤ 6 * i + 6 := by have := kp_len z ws; omega
                have HW2 : Hid (WOk (kp z ws)) := Lib.hid (wok_kp HW.out)
                clear L0 HK hlj hj12 hje
                go_wp2_with fail
                go_meet
                exact ⟨A2, s3, vb3, vv3, _, hwl2, HW2, HSF, LF⟩
        case rest =>
          clear L0 HW HS6 hwl
          obtain ⟨A2, sw, vb, vv, ws, hwl, HW, HS6, L0⟩ := hcut
          go_upto_region 22 with (fail)
          obtain ⟨nw, hnw⟩ : ∃ nw, ws.length = nw := ⟨_, rfl⟩
          have HNW := Lib.hid hnw
          obtain ⟨Ab, cb, Av, cv, hvb, hvv, _, _⟩ := qM_box (i := 2) L0.out rfl
          rw [hnw] at hvb hvv
          subst hvb hvv
          clear hnw
          have hsq : ∀ (W : World) (ex : List Ob), Lo wa lo hi b rb hq A2 A2 ex W → ex[2]? = some (qM y (.slice Ab nw cb) (.slice Av nw cv) ws) → (fun W : World => W.cell? ⟨y, 13, none⟩ = some (.slice Ab nw cb) ∧ W.cell? ⟨y, 14, none⟩ = some (.slice Av nw cv)) W := fun W ex h e => by
            obtain ⟨_, _, _, _, _, _, h1, h2⟩ := qM_box (i := 2) h e
            exact ⟨h1, h2⟩
          have hs0 := hsq _ _ L0.out.drew rfl
          have hbk := x_blocks (i := 1) (n := nw) L0.out.drew rfl HNW.out (by have := HNW.out; omega)
          have hk1 : ∀ wx Ao co, Lo wa lo hi b rb hq A2 A2 [bx gp TP #[.pointer (some ⟨b, 0, none⟩), .pointer (some ⟨rb, 0, none⟩)], lM g (.slice As 6 cs) sw ws, qM y (.slice Ab nw cb) (.slice Av nw cv) ws, rv TI 1 (.slice Ao nw co) nw (is (bsI ws))] wx → Calls Try.prog 47 #[.slice Ao nw co, .slice Ab nw cb] wx _ := fun wx Ao co h => k_ints _ _ _ (bsI ws) (rdi_rv (h.is 3 _ rfl)) (rdi_of (qM_rows (i := 2) h rfl).1) (by unfold bsI; rw [List.length_map]; have := HNW.out; omega)
          have hvs : ∀ wx Ao co n, Lo wa lo hi b rb hq A2 A2 [bx gp TP #[.pointer (some ⟨b, 0, none⟩), .pointer (some ⟨rb, 0, none⟩)], lM g (.slice As 6 cs) sw ws, qM y (.slice Ab nw cb) (.slice Av nw cv) ws, rv TI 1 (.slice Ao nw co) nw (is (bsI ws))] wx → Calls Try.prog 64 #[.pointer (some ⟨g, 0, none⟩)] (wx.drewN n) _ := fun wx Ao co n h => x_versions (i := 1) (n := nw) (h.drewN n) rfl HNW.out (by have := HNW.out; omega)
          have hk2 : ∀ wx Ao co Ap cp, Lo wa lo hi b rb hq A2 A2 [bx gp TP #[.pointer (some ⟨b, 0, none⟩), .pointer (some ⟨rb, 0, none⟩)], lM g (.slice As 6 cs) sw ws, qM y (.slice Ab nw cb) (.slice Av nw cv) ws, rv TI 1 (.slice Ao nw co) nw (is (bsI ws)), rv TI 1 (.slice Ap nw cp) nw (is (vsI ws))] wx → Calls Try.prog 47 #[.slice Ap nw cp, .slice Av nw cv] wx _ := fun wx Ao co Ap cp h => k_ints _ _ _ (vsI ws) (rdi_rv (h.is 4 _ rfl)) (rdi_of (qM_rows (i := 2) h rfl).2) (by unfold vsI; rw [List.length_map]; have := HNW.out; omega)
          go_region_held3 (fun W : World => W.cell? ⟨y, 13, none⟩ = some (.slice Ab nw cb) ∧ W.cell? ⟨y, 14, none⟩ = some (.slice Av nw cv)) (first | (with_reducible exact hs0) | (with_reducible exact hs1) | (with_reducible exact hs2) | (with_reducible exact hs3) | (with_reducible exact hs4)) (first
                | (go_at_call 63; (with_reducible refine hbk.mono ?_); rintro e y3 ⟨Ao, co, rfl, hL3⟩; have hs1 := hsq _ _ hL3 rfl; have hk1 := hk1 _ _ _ hL3)
                | (go_at_call 47; (with_reducible refine hk1.mono ?_); rintro e y4 ⟨rfl, n1, rfl⟩; have hs2 := hsq _ _ (hL3.drewN n1) rfl; have hvs := hvs _ _ _ n1 hL3)
                | (go_at_call 64; (with_reducible refine hvs.mono ?_); rintro e y5 ⟨Ap, cp, rfl, hL5⟩; have hs3 := hsq _ _ hL5 rfl; have hk2 := hk2 _ _ _ _ _ hL5)
                | (go_at_call 47; (with_reducible refine hk2.mono ?_); rintro e y6 ⟨rfl, n2, rfl⟩; have hs4 := hsq _ _ (hL5.drewN n2) rfl))
          have L1 : Hid (Lo wa lo hi b rb hq A2 A2 [bx gp TP #[.pointer (some ⟨b, 0, none⟩), .pointer (some ⟨rb, 0, none⟩)], lM g (.slice As 6 cs) sw ws, qM y (.slice Ab nw cb) (.slice Av nw cv) ws] ((y5.drewN n2))) := Lib.hid (Lo.drop (ex := [bx gp TP #[.pointer (some ⟨b, 0, none⟩), .pointer (some ⟨rb, 0, none⟩)], lM g (.slice As 6 cs) sw ws, qM y (.slice Ab nw cb) (.slice Av nw cv) ws]) (hL5.drewN n2))
          clear hL5 hL3 hs0 hs1 hs2 hs3 hs4 hsq hbk hk1 hvs hk2 L0
          go_wp2_with fail
          go_roundw
          case rel => exact ⟨i + 1, A2, sw, _, _, ws, by omega, by go_num, by omega, HW, HS6, L1⟩
          case measure => (first | (simp [intOf]; omega) | simp [intOf])
      · have hie : i = n0 := by omega
        have hieI : (n0 : Int) ≤ i := by omega
        have HB := Lib.hid (below_trans2 HB1.out L0.out.old)
        clear L0
        go_wp2_with (go_at_call 48; (with_reducible refine (l_awake _).mono ?_); rintro e wz ⟨rfl, hbz⟩)
        have HF := Lib.hid (below_trans2 HB.out hbz)
        clear hbz
        go_ret
        exact ⟨rfl, .of_below HF.out⟩
  · have hvI : (20 : Int) < n0 := by omega
    clear hv
    go_wp2_with (go_at_call 48; (with_reducible refine (l_awake _).mono ?_); rintro e wz ⟨rfl, hbz⟩)
    have HF := Lib.hid hbz
    clear hbz
    go_ret
    exact ⟨rfl, .of_below HF.out⟩

/-! The row's step. -/
set_option maxRecDepth 100000 in
theorem lifted (os : Os) (started : os.Started) (H : Type) (enc : TypeId × Value → H) :
    ReturnsInHanded {} Try.checked os 7 .any (Rows.limboFollowsSpec.pre6 enc Try.prog Try.f7 Rows.limboFollowsRow.domain false) (Rows.limboFollowsSpec.post enc Try.prog Try.f7 false true false false) := by
  refine returnsInHanded_of_change (C := Try.checked) own started (by kernel_rfl) Try.func7
    (ChangeSpec.witness6 (enc := enc) (C := Try.checked) false ⟨#[], #[.slice none 0 0], []⟩ 8 (by kernel_rfl) (by kernel_rfl) (by kernel_rfl) (by kernel_rfl)) ?_
  intro W base args ds gs before hval0 hW hcnd _
  have hval : ∀ (j : Nat) t v, Try.f7.params[j]? = some t → args[j]? = some v → Value.okWide Try.prog W .any base t v := hval0
  have hW' := hW
  obtain ⟨p, q, hA0, hV, rfl, hfz, hnd⟩ := hW
  have hA : DataW.TrodAll enc Try.prog W 0 (fun _ => true) true Try.f7.params.toList args.toList ds p := hA0
  rw [Try.params7] at hA hval
  obtain ⟨v0, vs0, d0, ds0, p0, q0, hargs, rfl, rfl, h0, r0⟩ := trodAll_cons hA
  obtain ⟨rfl, rfl, rfl⟩ := trodAll_nil r0
  obtain rfl : args = #[v0] := by cases args; simp_all
  obtain ⟨rfl, rfl⟩ := trodVars_none hV
  have hk : ∀ W', Kept W W' → Rows.limboFollowsSpec.post enc Try.prog Try.f7 false true false false W #[v0] (.bool true) W' := fun W' hb =>
    post_law laidOut readable rfl Try.underlying4 rfl hW' rfl hb
  clear hA0 hval0 hA hW'
  obtain ⟨A0, n0, c0, rfl, l0, m0, s0⟩ := LmO.open_row (hval 0 89 v0 rfl rfl) h0
  refine (walk W A0 n0 c0 l0 m0 s0).mono fun e W' ⟨he, hg⟩ => ?_
  subst he
  exact ⟨_, rfl, hk W' hg⟩

theorem over : Rows.limboFollowsRow.holds Try.pinned (OpenSpec.ofChange Rows.limboFollowsSpec) :=
  OpenClaim.holds_of_wide 7 Try.f7 rfl rfl rfl rfl rfl rfl rfl ⟨rfl, rfl, rfl, rfl, rfl⟩ rfl rfl rfl rfl rfl (by kernel_rfl) Try.func7 (by kernel_rfl)
    (of_decide_eq_true (by kernel_rfl)) (by unfold Func.isWrapper; first | (rw [if_pos (by decide +kernel)]; kernel_rfl) | (rw [if_neg (by decide +kernel)]; exact ⟨rfl, rfl⟩))
    (fun os started H enc _ => lifted os started H enc)

/-- The statement. -/
theorem proved : Rows.LimboFollowsSaid :=
  over
#print axioms proved
end Go.Proofs.Ytpjbmbipkmpkhaa.limboFollows
