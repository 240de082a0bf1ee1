/-
  Proved: a drain puts each block on the list of its own class. No condition.
-/
import Derived.Test.YtpjbmbipkmpkhaaRows
import Derived.WalkKit
import Derived.ProofKit
import Derived.OpenShut
import Derived.Test.YtpjbmbipkmpkhaaFrame
import Derived.Test.YtpjbmbipkmpkhaaLmK
import Derived.Test.YtpjbmbipkmpkhaaLayO
import Derived.Deep.RegionHeld3
import Derived.Deep.RegionLaw
import Derived.Deep.Cut
import Derived.Deep.DeepCutAuto
import Derived.Deep.CutBlock
import Derived.BigQuiet
import Derived.BigRegion
import Derived.Deep.QuietTactic
namespace Go.Proofs.Ytpjbmbipkmpkhaa.limboClasses
open Go.ChangeShapes Go.WideShapes Go.ChangeAt Go.RowKit
open LawFrame
open Go.ChangeMaps (open_string)
set_option linter.unusedVariables false

theorem own : ownKnob Try.prog.godebug = none := by kernel_rfl
theorem laidOut : laidOutB Try.prog = true := by kernel_rfl
theorem cells3 : Try.prog.cellsOf 3 = 1 := by kernel_rfl

open LawFrame PlainT BlkW LayS LayA LayF LayH LayK LayP CelS CelM CelP CelV CelN CelO CelI CelQ LabD LabR LabP LabS LabX LabN CelLo RsA ObjA ClnA FreP FreQ FreV FreC FreI LmP LmA LmB LmC LmD LmE LmF LmL LmK
set_option maxHeartbeats 20000000
set_option maxRecDepth 400000

theorem readable : ∀ t ∈ Try.f9.params.toList, Try.prog.readableRec t = true ∧ t < Try.prog.types.size := by
  have h : (Try.f9.params.toList.all fun t => Try.prog.readableRec t && decide (t < Try.prog.types.size)) = true := by kernel_rfl
  intro t ht
  have := List.all_eq_true.1 h t ht
  simpa using this

/-! The walk. -/
theorem walk (w : World) (A0 : Option Addr) (n0 c0 : Nat) (z0 : List Int) (l0 : n0 ≤ c0) (m0 : c0 ≤ maxLen) (s0 : Ints .i64 w A0 n0 z0) :
    Calls Try.prog 9 #[.slice A0 n0 c0] w fun e w' => e = .returned (.bool true) ∧ Kept w w' := by
  have HZ := Lib.hid s0
  clear s0
  go_enter Try.func9, Try.ntmps9
  go_upto_region 2 with (first | (go_at_call 49; (with_reducible refine (l_heap18 _).mono ?_); rintro e wa ⟨rfl, hb1⟩) | (go_at_call 31; (with_reducible refine (start_heap 1 1 rfl (by decide) (by decide) _).mono ?_); rintro e w2 ⟨A, lo, hi, b, rb, rfl, hst⟩))
  have L0 : Hid (Lo wa lo hi b rb hq A A [] w2) := Lib.hid (Lo.begunN hst)
  have HC := Lib.hid (begun_heap hst)
  have HB1 := Lib.hid hb1
  clear hst hb1
  have L1 := Lib.hid (L0.out.new TP #[.pointer (some ⟨b, 0, none⟩), .pointer (some ⟨rb, 0, none⟩)])
  obtain ⟨gp, hn⟩ : ∃ gp, w2.heap.size = gp := ⟨_, rfl⟩
  rw [hn] at L1
  first | rw [hn] | skip
  clear hn
  obtain ⟨W1, hW⟩ : ∃ W', w2.alloc (.cells #[.pointer (some ⟨b, 0, none⟩), .pointer (some ⟨rb, 0, none⟩)] TP) = W' := ⟨_, rfl⟩
  rw [hW] at L1
  first | rw [hW] | skip
  clear hW
  have L1 : Hid (Lo wa lo hi b rb hq A A [bx gp TP #[.pointer (some ⟨b, 0, none⟩), .pointer (some ⟨rb, 0, none⟩)]] W1) := L1
  clear L0
  go_upto_region 5 with (first | (go_at_call 49; (with_reducible refine (l_heap18 _).mono ?_); rintro e wh ⟨rfl, hbh⟩; have hnw := x_new (Lo.below L1.out hbh)) | (go_at_call 50; (with_reducible refine hnw.mono ?_); rintro e w3 ⟨g, As, cs, rfl, hL⟩))
  have L2 : Hid (Lo wa lo hi b rb hq A A [bx gp TP #[.pointer (some ⟨b, 0, none⟩), .pointer (some ⟨rb, 0, none⟩)], lM g (.slice As 6 cs) (.slice none 0 0) []] w3) := Lib.hid (hL)
  clear L1 hL hnw hbh
  go_wp2_with fail
  go_loopw [6] (fun iv wr => ∃ (k : Nat) (A1 : Int → List Int), k ≤ 3 ∧ iv = .int .i64 k ∧ Hid (A1 7 = hz k ∧ A1 8 = N0 ∧ (A1 3).length = 1 ∧ (A1 4).length = 1 ∧ (A1 5).length = 1) ∧ Hid (Lo wa lo hi b rb hq A1 A1 [bx gp TP #[.pointer (some ⟨b, 0, none⟩), .pointer (some ⟨rb, 0, none⟩)], lM g (.slice As 6 cs) (.slice none 0 0) []] wr)) (fun iv _ => 3 - (intOf iv).toNat)
  case atStart => exact ⟨0, A, by omega, rfl, Lib.hid ⟨HC.out.2.1, HC.out.2.2, HC.out.1.l3, HC.out.1.l4, HC.out.1.l5⟩, L2⟩
  case round =>
    clear L2 HC
    obtain ⟨k, A1, hk3, rfl, HA, L0⟩ := hrel
    by_cases hlt : k < 3
    · have hltI : (k : Int) < 3 := by omega
      have hl7 : (A1 7).length = 4 := by rw [HA.out.1]; exact hz_len hlt
      have hset := lo_set L0.out 7 (by decide) k (by omega) 0
      have c0_0_0 : wr.cell? ⟨gp, 0, none⟩ = some (.pointer (some ⟨b, 0, none⟩)) := L0.out.c 0 0 rfl rfl
      have c0_0_1 : wr.cell? ⟨gp, 1, none⟩ = some (.pointer (some ⟨rb, 0, none⟩)) := L0.out.c 0 1 rfl rfl
      have HA2 : Hid ((upd A1 7 k 0) 7 = hz (k + 1) ∧ (upd A1 7 k 0) 8 = N0 ∧ ((upd A1 7 k 0) 3).length = 1 ∧ ((upd A1 7 k 0) 4).length = 1 ∧ ((upd A1 7 k 0) 5).length = 1) := Lib.hid ⟨by rw [show upd A1 7 k 0 7 = (A1 7).set k 0 from if_pos rfl, HA.out.1, hz_set hlt], by rw [LabD.upd_ne (by decide)]; exact HA.out.2.1, by rw [LabD.upd_ne (by decide)]; exact HA.out.2.2.1, by rw [LabD.upd_ne (by decide)]; exact HA.out.2.2.2.1, by rw [LabD.upd_ne (by decide)]; exact HA.out.2.2.2.2⟩
      go_wp2_with (go_at_call 19; (with_reducible refine hset.mono ?_); rintro e w5 ⟨rfl, hL⟩)
      have L1 : Hid (Lo wa lo hi b rb hq (upd A1 7 k 0) (upd A1 7 k 0) [bx gp TP #[.pointer (some ⟨b, 0, none⟩), .pointer (some ⟨rb, 0, none⟩)], lM g (.slice As 6 cs) (.slice none 0 0) []] w5) := Lib.hid hL
      clear hL hset L0 HA hl7
      go_roundw
      case rel => exact ⟨k + 1, _, by omega, by go_num, HA2, L1⟩
      case measure => (first | (simp [intOf]; omega) | simp [intOf])
    · obtain rfl : k = 3 := by omega
      have HC : Hid (Ch 0 A1 T0 LN) := Lib.hid (ch_zero HA.out.1 HA.out.2.1 HA.out.2.2.1 HA.out.2.2.2.1 HA.out.2.2.2.2)
      clear hlt HA hk3
      go_upto_region 11 with (fail)
      have L1 := Lib.hid (L0.out.new 109 #[.slice none 0 0, .slice none 0 0, .slice none 0 0])
      obtain ⟨gw, hn⟩ : ∃ gw, wr.heap.size = gw := ⟨_, rfl⟩
      rw [hn] at L1
      first | rw [hn] | skip
      clear hn
      obtain ⟨W1, hW⟩ : ∃ W', wr.alloc (.cells #[.slice none 0 0, .slice none 0 0, .slice none 0 0] 109) = W' := ⟨_, rfl⟩
      rw [hW] at L1
      first | rw [hW] | skip
      clear hW
      have L1 : Hid (Lo wa lo hi b rb hq A1 A1 [bx gp TP #[.pointer (some ⟨b, 0, none⟩), .pointer (some ⟨rb, 0, none⟩)], lM g (.slice As 6 cs) (.slice none 0 0) [], bx gw 109 #[.slice none 0 0, .slice none 0 0, .slice none 0 0]] W1) := L1
      clear L0
      go_upto_region 12 with (fail)
      have L2 := Lib.hid (L1.out.new 110 #[.bool false, .bool false, .bool false, .bool false, .bool false, .bool false])
      obtain ⟨gs, hn⟩ : ∃ gs, W1.heap.size = gs := ⟨_, rfl⟩
      rw [hn] at L2
      first | rw [hn] | skip
      clear hn
      obtain ⟨W2, hW⟩ : ∃ W', W1.alloc (.cells #[.bool false, .bool false, .bool false, .bool false, .bool false, .bool false] 110) = W' := ⟨_, rfl⟩
      rw [hW] at L2
      first | rw [hW] | skip
      clear hW
      have L2 : Hid (Lo wa lo hi b rb hq A1 A1 [bx gp TP #[.pointer (some ⟨b, 0, none⟩), .pointer (some ⟨rb, 0, none⟩)], lM g (.slice As 6 cs) (.slice none 0 0) [], bx gw 109 #[.slice none 0 0, .slice none 0 0, .slice none 0 0], bx gs 110 #[.bool false, .bool false, .bool false, .bool false, .bool false, .bool false]] W2) := L2
      clear L1
      have LB : Hid (Lo wa lo hi b rb hq A1 A1 [bx gp TP #[.pointer (some ⟨b, 0, none⟩), .pointer (some ⟨rb, 0, none⟩)], lM g (.slice As 6 cs) (.slice none 0 0) ((w1 [])), bx gw 109 (va (fun _ => Value.slice none 0 0)), bx gs 110 (sn []), ro (fun _ => Value.slice none 0 0) (pend LN []) 0, ro (fun _ => Value.slice none 0 0) (pend LN []) 1, ro (fun _ => Value.slice none 0 0) (pend LN []) 2] W2) := Lib.hid (Lo.nilV (Lo.nilV (Lo.nilV L2.out TI 1) TI 1) TI 1)
      clear L2
      go_wp2_with fail
      go_loopw [9] (fun iv wr => ∃ (i : Nat) (bs : List Nat) (sw : Value) (V : Nat → Value), i ≤ n0 ∧ i ≤ 12 ∧ iv = .int .i64 i ∧ Hid (bs.Nodup ∧ ∀ b ∈ bs, b < 6) ∧ Hid (Lo wa lo hi b rb hq A1 A1 [bx gp TP #[.pointer (some ⟨b, 0, none⟩), .pointer (some ⟨rb, 0, none⟩)], lM g (.slice As 6 cs) sw ((w1 bs)), bx gw 109 (va V), bx gs 110 (sn bs), ro V (pend LN bs) 0, ro V (pend LN bs) 1, ro V (pend LN bs) 2] wr)) (fun iv _ => 12 - (intOf iv).toNat)
      case atStart => exact ⟨0, [], _, _, by omega, by omega, rfl, Lib.hid ⟨List.nodup_nil, fun b hb => absurd hb List.not_mem_nil⟩, LB⟩
      case round =>
        clear LB
        obtain ⟨i, bs, sw, V, hin, hi12, rfl, HN, L0⟩ := hrel
        by_cases hlt : i < n0
        · have hltI : (i : Int) < n0 := by omega
          by_cases hlt2 : i < 12
          · have hlt2I : (i : Int) < 12 := by omega
            obtain ⟨gb, off, x, rfl, _, r0⟩ := iat HZ.out (below_trans2 HB1.out L0.out.old) hlt
            have hpc := k_place_ex x 6 (by decide) (by decide)
            go_upto_region 16 with ((go_at_call 12; (with_reducible refine (hpc _).mono ?_); rintro e w4 ⟨v, hv0, hv5, rfl, rfl⟩))
            clear r0 hpc
            obtain ⟨k, hk⟩ : ∃ k : Nat, v = (k : Int) := ⟨v.toNat, by omega⟩
            subst hk
            have hk6 : k < 6 := by omega
            have hk6I : (k : Int) < 6 := by omega
            by_cases hm : k ∈ bs
            · have q0 : wr.cell? ⟨gs, k, none⟩ = some (.bool true) := by have := L0.out.c 3 k rfl (sn_at (bs := bs) hk6); rwa [decide_eq_true hm] at this
              go_wp2_with fail
              go_roundw
              case rel => exact ⟨i + 1, bs, sw, V, by omega, by omega, by go_num, HN, L0⟩
              case measure => (first | (simp [intOf]; omega) | simp [intOf])
            · have q0 : wr.cell? ⟨gs, k, none⟩ = some (.bool false) := by have := L0.out.c 3 k rfl (sn_at (bs := bs) hk6); rwa [decide_eq_false hm] at this
              have z0 : wr.frozen? ⟨gs, k, none⟩ = false := L0.out.z 3 k rfl
              have L1 : Hid (Lo wa lo hi b rb hq A1 A1 [bx gp TP #[.pointer (some ⟨b, 0, none⟩), .pointer (some ⟨rb, 0, none⟩)], lM g (.slice As 6 cs) sw ((w1 bs)), bx gw 109 (va V), bx gs 110 (sn (bs ++ [k])), ro V (pend LN bs) 0, ro V (pend LN bs) 1, ro V (pend LN bs) 2] ((wr.setCell ⟨gs, k, none⟩ (.bool true)))) := Lib.hid (by have := L0.out.put 3 k (.bool true) rfl; rwa [sn_put hk6] at this)
              go_upto_region 18 with (fail)
              obtain ⟨w5, hW⟩ : ∃ W', wr.setCell ⟨gs, k, none⟩ (.bool true) = W' := ⟨_, rfl⟩
              rw [hW] at L1
              first | rw [hW] | skip
              clear hW q0 z0 L0
              have LT : Hid (Lo wa lo hi b rb hq A1 A1 [bx gp TP #[.pointer (some ⟨b, 0, none⟩), .pointer (some ⟨rb, 0, none⟩)], lM g (.slice As 6 cs) sw ((w1 bs)), bx gw 109 (va V), bx gs 110 (sn (bs ++ [k])), ro V (pend LN bs) 0, ro V (pend LN bs) 1, ro V (pend LN bs) 2, rd .i64 (.slice (some ⟨w5.heap.size, 0, none⟩) 1 1) [(k : Int)]] ((w5.alloc (.cells #[.int .i64 k] TI)))) := Lib.hid (Lo.lit L1.out [(k : Int)] (by simp [maxLen]))
              have hwl : (w1 bs).length + 1 ≤ 1000 := by unfold w1; rw [List.length_map]; have := nodup_six HN.out.1 HN.out.2; omega
              have had := x_add (i := 1) (z := 1) LT.out rfl (rdb_of (j := 7) rfl (by decide) (fun _ h => h)) hwl
              rw [w1_push hk6] at had
              go_upto_region 19 with ((go_at_call 52; (with_reducible refine had.mono ?_); rintro e w6 ⟨rfl, sw2, hL⟩))
              have L2 : Hid (Lo wa lo hi b rb hq A1 A1 [bx gp TP #[.pointer (some ⟨b, 0, none⟩), .pointer (some ⟨rb, 0, none⟩)], lM g (.slice As 6 cs) sw2 ((w1 (bs ++ [k]))), bx gw 109 (va V), bx gs 110 (sn (bs ++ [k])), ro V (pend LN bs) 0, ro V (pend LN bs) 1, ro V (pend LN bs) 2] w6) := Lib.hid (Lo.drop (ex := [bx gp TP #[.pointer (some ⟨b, 0, none⟩), .pointer (some ⟨rb, 0, none⟩)], lM g (.slice As 6 cs) sw2 ((w1 (bs ++ [k]))), bx gw 109 (va V), bx gs 110 (sn (bs ++ [k])), ro V (pend LN bs) 0, ro V (pend LN bs) 1, ro V (pend LN bs) 2]) hL)
              clear hL had LT L1 hwl
              obtain ⟨c, hc⟩ : ∃ c, cl k = c := ⟨_, rfl⟩
              have hc3 : c < 3 := by have := cl_in k; omega
              have hc3I : (c : Int) < 3 := by omega
              have hcs : ∀ wx, Calls Try.prog 33 #[.agg #[.int .i64 20, .int .i64 4, .int .i64 1, .int .i64 3, .int .i64 2, .int .i64 1, .int .i64 0, .int .i64 1, .int .i64 1, .int .i64 0, .int .i64 0, .int .i64 0, .bool false], .int .i64 k] wx fun e w' => e = .returned (.int .i64 (c : Int)) ∧ Below wx.heap.size wx w' := fun wx => by rw [← hc, ← cl_of hk6]; exact r_class hq k wx
              go_upto_region 20 with (first | (go_at_call 49; (with_reducible refine (l_heap18 _).mono ?_); rintro e wh ⟨rfl, hbh⟩) | (go_at_call 33; (with_reducible refine (hcs _).mono ?_); rintro e w7 ⟨rfl, hb7⟩))
              have L3 : Hid (Lo wa lo hi b rb hq A1 A1 [bx gp TP #[.pointer (some ⟨b, 0, none⟩), .pointer (some ⟨rb, 0, none⟩)], lM g (.slice As 6 cs) sw2 ((w1 (bs ++ [k]))), bx gw 109 (va V), bx gs 110 (sn (bs ++ [k])), ro V (pend LN bs) 0, ro V (pend LN bs) 1, ro V (pend LN bs) 2] w7) := Lib.hid ((L2.out.below hbh).below hb7)
              clear L2 hbh hb7 hcs
              have LA : Hid (Lo wa lo hi b rb hq A1 A1 [bx gp TP #[.pointer (some ⟨b, 0, none⟩), .pointer (some ⟨rb, 0, none⟩)], lM g (.slice As 6 cs) sw2 ((w1 (bs ++ [k]))), bx gw 109 (va V), bx gs 110 (sn (bs ++ [k])), ro V (pend LN bs) 0, ro V (pend LN bs) 1, ro V (pend LN bs) 2, rv TI 1 (.slice (some ⟨w7.heap.size, 0, none⟩) 1 1) 1 (is [(k : Int)])] ((w7.alloc (.cells #[.int .i64 k] TI)))) := Lib.hid (L3.out.add (below_new _ _) (own_low (B := w7.heap.size) (own_made (xs := [(k : Int)]) (Mem.new w7 TI #[.int .i64 k]) (Nat.le_refl _) (by simp [maxLen]))) fun g hg => by
                have : g = w7.heap.size := by simpa [rv, Value.ownBlock] using hg
                omega)
              have hrw : (ro V (pend LN bs) c).is (w7.alloc (.cells #[.int .i64 k] TI)) := LA.out.is (4 + c) _ (ex_left (ex2 := [_]) (ro_at hc3 _ _ _ _))
              have hWl : (pend LN bs c).length ≤ 6 := pend_len HN.out.1 HN.out.2 c (by omega)
              obtain ⟨m, hm2⟩ : ∃ m, (pend LN bs c).length = m := ⟨_, rfl⟩
              obtain ⟨Aa, ca, w8, hrun, hL⟩ := Lo.appI (X := []) (m := m) (rs := [bx gp TP #[.pointer (some ⟨b, 0, none⟩), .pointer (some ⟨rb, 0, none⟩)], lM g (.slice As 6 cs) sw2 ((w1 (bs ++ [k]))), bx gw 109 (va V), bx gs 110 (sn (bs ++ [k])), ro V (pend LN bs) 0, ro V (pend LN bs) 1, ro V (pend LN bs) 2, rv TI 1 (.slice (some ⟨w7.heap.size, 0, none⟩) 1 1) 1 (is [(k : Int)])]) LA.out 7 rfl (ro_rd hrw).slice (by unfold bI; rw [List.length_map]; exact hm2) (by omega)
              have hL8 := Lo.swapAt (ex := [bx gp TP #[.pointer (some ⟨b, 0, none⟩), .pointer (some ⟨rb, 0, none⟩)], lM g (.slice As 6 cs) sw2 ((w1 (bs ++ [k]))), bx gw 109 (va V), bx gs 110 (sn (bs ++ [k])), ro V (pend LN bs) 0, ro V (pend LN bs) 1, ro V (pend LN bs) 2]) (i := 4 + c) hL (by simp; omega)
              rw [ro_set hc3 _ _ _ _ _ (by rw [hm2]; omega)] at hL8
              have q1 : (w7.alloc (.cells #[.int .i64 k] TI)).cell? ⟨gw, c, none⟩ = some (V c) := LA.out.c 2 c rfl (va_at hc3)
              have q2 : w8.cell? ⟨gw, c, none⟩ = some (V c) := hL.c 2 c rfl (va_at hc3)
              have z2 : w8.frozen? ⟨gw, c, none⟩ = false := hL.z 2 c rfl
              have HN2 : Hid ((bs ++ [k]).Nodup ∧ ∀ b ∈ bs ++ [k], b < 6) := Lib.hid ⟨List.nodup_append.2 ⟨HN.out.1, by simp, by intro a ha b hb; simp at hb; subst hb; intro e; subst e; exact hm ha⟩, fun b hb => by rcases List.mem_append.1 hb with hb | hb; exact HN.out.2 b hb; simp at hb; omega⟩
              have LZ : Hid (Lo wa lo hi b rb hq A1 A1 [bx gp TP #[.pointer (some ⟨b, 0, none⟩), .pointer (some ⟨rb, 0, none⟩)], lM g (.slice As 6 cs) sw2 ((w1 (bs ++ [k]))), bx gw 109 (va (up V c (.slice Aa (1 + m) ca))), bx gs 110 (sn (bs ++ [k])), ro (up V c (.slice Aa (1 + m) ca)) (pend LN (bs ++ [k])) 0, ro (up V c (.slice Aa (1 + m) ca)) (pend LN (bs ++ [k])) 1, ro (up V c (.slice Aa (1 + m) ca)) (pend LN (bs ++ [k])) 2] ((w8.setCell ⟨gw, c, none⟩ (.slice Aa (1 + m) ca)))) := Lib.hid (by
                have h9 := hL8.put 2 c (.slice Aa (1 + m) ca) rfl
                rw [va_put hc3] at h9
                rw [pend_push, hc]
                exact h9)
              clear hL hL8 LA hrw L3 HN
              go_wp2_with (at_builtin; refine wpList_append_run rfl _ _ _ rfl hrun (by rfl) (by rfl) ?_; clear hrun)
              go_roundw
              case rel => exact ⟨i + 1, _, sw2, _, by omega, by omega, by go_num, HN2, LZ⟩
              case measure => (first | (simp [intOf]; omega) | simp [intOf])
          · obtain rfl : i = 12 := by omega
            clear hlt2
            have H1C : Hid (∀ c k, (pend LN bs c).count k ≤ 1) := Lib.hid (pend_one HN.out.1 HN.out.2)
            have h6 := nodup_six HN.out.1 HN.out.2
            have hwl : (w1 bs).length ≤ 1000 := by unfold w1; rw [List.length_map]; omega
            have hwk : WOk (w1 bs) := fun p hp => by
              obtain ⟨b, hb, rfl⟩ := List.mem_map.1 hp
              exact HN.out.2 b hb
            have hdr := x_drain (i := 1) (z := 1) L0.out rfl hwl hwk
            rw [(w1_tk bs).1, (w1_tk bs).2, w1_fst] at hdr
            go_upto_region 22 with ((go_at_call 55; (with_reducible refine hdr.mono ?_); rintro e w6 ⟨gd, vd, ps, s3, rfl, hps, hL⟩))
            have L1 : Hid (Lo wa lo hi b rb hq A1 A1 [bx gp TP #[.pointer (some ⟨b, 0, none⟩), .pointer (some ⟨rb, 0, none⟩)], lM g (.slice As 6 cs) s3 [], bx gw 109 (va V), bx gs 110 (sn bs), ro V (pend LN bs) 0, ro V (pend LN bs) 1, ro V (pend LN bs) 2, dM gd vd ps 0 0] w6) := Lib.hid (hL)
            clear L0 hL hdr hwl hwk
            obtain ⟨LF, hLF⟩ : ∃ LF, pend LN bs = LF := ⟨_, rfl⟩
            rw [hLF] at L1 H1C
            have HP0 : Hid (Pd ((0 : Nat) : Int) A1 T0 LN (ps.map Prod.snd) 0 0 ∧ pend LN (ps.map Prod.snd) = LF ∧ (ps = [] ∨ on bs.length ps 0 = 0) ∧ ps.length ≤ bs.length) := Lib.hid (by
              have hpl : ps.length = bs.length := by have := congrArg List.length hps; simpa using this
              refine ⟨?_, by rw [hps]; exact hLF, .inr (by unfold on; omega), by omega⟩
              rw [hps]
              exact Pd.start HC.out (by decide) HN.out.2 (fun b _ c _ => List.not_mem_nil) HN.out.1)
            go_wp2_with fail
            go_loopw [13] (fun iv wr => ∃ (j : Nat) (A2 : Int → List Int) (T2 : Nat → Int) (L2 : Nat → List Nat) (v2 : Value) (p2 : PL) (st : Nat) (x : Int), j ≤ 18 ∧ iv = .int .i64 j ∧ Hid (Pd (j : Int) A2 T2 L2 (p2.map Prod.snd) st x ∧ pend L2 (p2.map Prod.snd) = LF ∧ (p2 = [] ∨ on bs.length p2 st = j) ∧ p2.length ≤ bs.length) ∧ Hid (Lo wa lo hi b rb hq A2 A1 [bx gp TP #[.pointer (some ⟨b, 0, none⟩), .pointer (some ⟨rb, 0, none⟩)], lM g (.slice As 6 cs) s3 [], bx gw 109 (va V), bx gs 110 (sn bs), ro V LF 0, ro V LF 1, ro V LF 2, dM gd v2 p2 st x] wr)) (fun iv _ => 18 - (intOf iv).toNat)
            case atStart => exact ⟨0, A1, T0, LN, vd, ps, 0, 0, by omega, rfl, HP0, L1⟩
            case round =>
              clear L1 HP0 HC HN hps hLF
              obtain ⟨j, A2, T2, L2, v2, p2, st, x, hj, rfl, HP, L0⟩ := hrel
              by_cases hlt : j < 18
              · have hltI : (j : Int) < 18 := by omega
                obtain ⟨k1, k2, k3, k4, k5, d, hac⟩ := dC_ex A2 (p2.map Prod.snd) st x
                obtain ⟨A', hA'⟩ : ∃ A', dA A2 (p2.map Prod.snd) st x = A' := ⟨_, rfl⟩
                have hst := dx_step (i := 7) L0.out rfl HP.out.1.dk (Lib.hid hac) (Lib.hid hA')
                have HP2 : ∃ T3, Hid (Pd ((j + 1 : Nat) : Int) A' T3 (dL L2 (p2.map Prod.snd) st) ((dB p2 st).map Prod.snd) (dS p2 st) (dX A2 (p2.map Prod.snd) st x) ∧ pend (dL L2 (p2.map Prod.snd) st) ((dB p2 st).map Prod.snd) = LF ∧ (dB p2 st = [] ∨ on bs.length (dB p2 st) (dS p2 st) = j + 1) ∧ (dB p2 st).length ≤ bs.length) := by
                  obtain ⟨hp1, hp2, hp3, hp4⟩ := HP.out
                  obtain ⟨T3, hp5⟩ := hp1.next (by omega)
                  rw [hA', dB_map, dS_map] at hp5
                  refine ⟨T3, Lib.hid ⟨hp5, ?_, ?_, ?_⟩⟩
                  · rw [← dB_map, pend_next]; exact hp2
                  · by_cases hn : p2 = []
                    · subst hn; exact .inl rfl
                    · right; rw [(on_next hn hp4 hp1.dk.st2).1, hp3.resolve_left hn]
                  · by_cases hn : p2 = []
                    · subst hn; exact Nat.zero_le _
                    · exact (on_next hn hp4 hp1.dk.st2).2
                obtain ⟨T3, HP2⟩ := HP2
                clear hac hA'
                have c0_0_0 : wr.cell? ⟨gp, 0, none⟩ = some (.pointer (some ⟨b, 0, none⟩)) := L0.out.c 0 0 rfl rfl
                go_wp2_with (go_at_call 61; (with_reducible refine hst.mono ?_); rintro e w7 ⟨rfl, v3, hL⟩)
                have L1 : Hid (Lo wa lo hi b rb hq A' A1 [bx gp TP #[.pointer (some ⟨b, 0, none⟩), .pointer (some ⟨rb, 0, none⟩)], lM g (.slice As 6 cs) s3 [], bx gw 109 (va V), bx gs 110 (sn bs), ro V LF 0, ro V LF 1, ro V LF 2, dM gd v3 (dB p2 st) (dS p2 st) (dX A2 (p2.map Prod.snd) st x)] w7) := Lib.hid hL
                clear hL hst HP L0
                go_roundw
                case rel => exact ⟨j + 1, A', T3, _, v3, _, _, _, by omega, by go_num, HP2, L1⟩
                case measure => (first | (simp [intOf]; omega) | simp [intOf])
              · have hj18 : j = 18 := by omega
                have hgeI : (18 : Int) ≤ j := by omega
                have hn : p2 = [] := by
                  rcases HP.out.2.2.1 with h | h
                  · exact h
                  · cases p2 with
                    | nil => rfl
                    | cons a t => have h2 := HP.out.1.dk.st2; have h3 := HP.out.2.2.2; unfold on at h; simp only [List.length_cons] at h h3; omega
                subst hn
                have HC : Hid (Ch 18 A2 T2 L2) := Lib.hid (HP.out.1.ch.more (by omega))
                have hLL : L2 = LF := HP.out.2.1
                subst hLL
                clear HP hlt hj hj18
                go_wp2_with fail
                go_loopw [14] (fun iv wr => ∃ (k : Nat), k ≤ 3 ∧ iv = .int .i64 k ∧ Hid (Lo wa lo hi b rb hq A2 A1 [bx gp TP #[.pointer (some ⟨b, 0, none⟩), .pointer (some ⟨rb, 0, none⟩)], lM g (.slice As 6 cs) s3 [], bx gw 109 (va V), bx gs 110 (sn bs), ro V L2 0, ro V L2 1, ro V L2 2, dM gd v2 [] st x] wr)) (fun iv _ => 3 - (intOf iv).toNat)
                case atStart => exact ⟨0, by omega, rfl, L0⟩
                case round =>
                  clear L0
                  obtain ⟨k, hk3, rfl, L0⟩ := hrel
                  by_cases hlt : k < 3
                  · have hltI : (k : Int) < 3 := by omega
                    have him := lo_imageH L0.out HC.out.l3 HC.out.l4 HC.out.l5
                    have c0_0_0 : wr.cell? ⟨gp, 0, none⟩ = some (.pointer (some ⟨b, 0, none⟩)) := L0.out.c 0 0 rfl rfl
                    have hls : ∀ wx c t s vd vo vl vh vn, Lo wa lo hi b rb hq A2 A1 [bx gp TP #[.pointer (some ⟨b, 0, none⟩), .pointer (some ⟨rb, 0, none⟩)], lM g (.slice As 6 cs) s3 [], bx gw 109 (va V), bx gs 110 (sn bs), ro V L2 0, ro V L2 1, ro V L2 2, dM gd v2 [] st x] wx → (∃ p n c, vd = .slice p n c) → (∃ p n c, vo = .slice p n c) → (∃ p n c, vl = .slice p n c) → Rd wx vh (A2 7) → Rd wx vn (A2 8) → Calls Try.prog 45 #[imgV vd vo c t s vl vh vn, .int .i64 k] wx _ := fun wx c t s vd vo vl vh vn h h1 h2 h3 hH hN => lo_list h HC.out (by decide) h1 h2 h3 hH hN k (by omega) (H1C.out k)
                    have hks : ∀ wx Aa ca, Lo wa lo hi b rb hq A2 A1 [bx gp TP #[.pointer (some ⟨b, 0, none⟩), .pointer (some ⟨rb, 0, none⟩)], lM g (.slice As 6 cs) s3 [], bx gw 109 (va V), bx gs 110 (sn bs), ro V L2 0, ro V L2 1, ro V L2 2, dM gd v2 [] st x] wx → RdS .i64 wx (.slice Aa (L2 k).length ca) (bI (L2 k)) → wx.cell? ⟨gw, k, none⟩ = some (V k) ∧ Calls Try.prog 47 #[.slice Aa (L2 k).length ca, V k] wx _ := fun wx Aa ca h hr => ⟨h.c 2 k rfl (va_at hlt), k_ints wx _ _ (bI (L2 k)) ⟨_, _, hr.choose_spec.choose_spec.1, hr.choose_spec.choose_spec.2.2.2⟩ (rdi_of (ro_rd (h.is (4 + k) _ (ex_left (ex2 := [_]) (ro_at hlt _ _ _ _))))) (by unfold bI; rw [List.length_map]; have := len_counts (HC.out.lcl k (by omega)); have := H1C.out k 0; have := H1C.out k 1; have := H1C.out k 2; have := H1C.out k 3; have := H1C.out k 4; have := H1C.out k 5; omega)⟩
                    go_wp2_with (first
                | (go_at_call 17; (with_reducible refine him.mono ?_); rintro e y7 ⟨ic, it, is9, vd, vo, vl, vh, vn, rfl, h1, h2, h3, hH, hN, hL7⟩; have hls := hls _ ic it is9 _ _ _ _ _ hL7 h1 h2 h3 hH hN)
                | (go_at_call 45; (with_reducible refine hls.mono ?_); rintro e y8 ⟨Aa, ca, rfl, hr8, hL8⟩; obtain ⟨q8, hks⟩ := hks _ _ _ hL8 hr8)
                | (go_at_call 47; (with_reducible refine hks.mono ?_); rintro e y9 ⟨rfl, nw, rfl⟩))
                    have L1 : Hid (Lo wa lo hi b rb hq A2 A1 [bx gp TP #[.pointer (some ⟨b, 0, none⟩), .pointer (some ⟨rb, 0, none⟩)], lM g (.slice As 6 cs) s3 [], bx gw 109 (va V), bx gs 110 (sn bs), ro V L2 0, ro V L2 1, ro V L2 2, dM gd v2 [] st x] ((y8.drewN nw))) := Lib.hid (hL8.drewN nw)
                    clear hL8 hL7 hH hN hr8 q8 L0
                    go_roundw
                    case rel => exact ⟨k + 1, by omega, by go_num, L1⟩
                    case measure => (first | (simp [intOf]; omega) | simp [intOf])
                  · obtain rfl : k = 3 := by omega
                    have hdn := dx_done (i := 7) (D := true) L0.out rfl (Lib.hid rfl)
                    have hbk := x_blocks (i := 1) (n := 0) L0.out rfl rfl (by decide)
                    go_wp2_with (first
                | (go_at_call 58; (with_reducible refine hdn.mono ?_); rintro e y1 ⟨rfl, rfl⟩)
                | (go_at_call 63; (with_reducible refine hbk.mono ?_); rintro e y3 ⟨Ab, cb, rfl, hL3⟩)
                | (go_at_call 48; (with_reducible refine (l_awake _).mono ?_); rintro e wz ⟨rfl, hbz⟩))
                    have HF := Lib.hid (below_trans2 HB1.out (below_trans2 hL3.old hbz))
                    clear hbz hL3 hbk hdn L0
                    go_ret
                    exact ⟨rfl, .of_below HF.out⟩
        · obtain rfl : i = n0 := by omega
          clear hlt
          have H1C : Hid (∀ c k, (pend LN bs c).count k ≤ 1) := Lib.hid (pend_one HN.out.1 HN.out.2)
          have h6 := nodup_six HN.out.1 HN.out.2
          have hwl : (w1 bs).length ≤ 1000 := by unfold w1; rw [List.length_map]; omega
          have hwk : WOk (w1 bs) := fun p hp => by
            obtain ⟨b, hb, rfl⟩ := List.mem_map.1 hp
            exact HN.out.2 b hb
          have hdr := x_drain (i := 1) (z := 1) L0.out rfl hwl hwk
          rw [(w1_tk bs).1, (w1_tk bs).2, w1_fst] at hdr
          go_upto_region 22 with ((go_at_call 55; (with_reducible refine hdr.mono ?_); rintro e w6 ⟨gd, vd, ps, s3, rfl, hps, hL⟩))
          have L1 : Hid (Lo wa lo hi b rb hq A1 A1 [bx gp TP #[.pointer (some ⟨b, 0, none⟩), .pointer (some ⟨rb, 0, none⟩)], lM g (.slice As 6 cs) s3 [], bx gw 109 (va V), bx gs 110 (sn bs), ro V (pend LN bs) 0, ro V (pend LN bs) 1, ro V (pend LN bs) 2, dM gd vd ps 0 0] w6) := Lib.hid (hL)
          clear L0 hL hdr hwl hwk
          obtain ⟨LF, hLF⟩ : ∃ LF, pend LN bs = LF := ⟨_, rfl⟩
          rw [hLF] at L1 H1C
          have HP0 : Hid (Pd ((0 : Nat) : Int) A1 T0 LN (ps.map Prod.snd) 0 0 ∧ pend LN (ps.map Prod.snd) = LF ∧ (ps = [] ∨ on bs.length ps 0 = 0) ∧ ps.length ≤ bs.length) := Lib.hid (by
            have hpl : ps.length = bs.length := by have := congrArg List.length hps; simpa using this
            refine ⟨?_, by rw [hps]; exact hLF, .inr (by unfold on; omega), by omega⟩
            rw [hps]
            exact Pd.start HC.out (by decide) HN.out.2 (fun b _ c _ => List.not_mem_nil) HN.out.1)
          go_wp2_with fail
          go_loopw [13] (fun iv wr => ∃ (j : Nat) (A2 : Int → List Int) (T2 : Nat → Int) (L2 : Nat → List Nat) (v2 : Value) (p2 : PL) (st : Nat) (x : Int), j ≤ 18 ∧ iv = .int .i64 j ∧ Hid (Pd (j : Int) A2 T2 L2 (p2.map Prod.snd) st x ∧ pend L2 (p2.map Prod.snd) = LF ∧ (p2 = [] ∨ on bs.length p2 st = j) ∧ p2.length ≤ bs.length) ∧ Hid (Lo wa lo hi b rb hq A2 A1 [bx gp TP #[.pointer (some ⟨b, 0, none⟩), .pointer (some ⟨rb, 0, none⟩)], lM g (.slice As 6 cs) s3 [], bx gw 109 (va V), bx gs 110 (sn bs), ro V LF 0, ro V LF 1, ro V LF 2, dM gd v2 p2 st x] wr)) (fun iv _ => 18 - (intOf iv).toNat)
          case atStart => exact ⟨0, A1, T0, LN, vd, ps, 0, 0, by omega, rfl, HP0, L1⟩
          case round =>
            clear L1 HP0 HC HN hps hLF
            obtain ⟨j, A2, T2, L2, v2, p2, st, x, hj, rfl, HP, L0⟩ := hrel
            by_cases hlt : j < 18
            · have hltI : (j : Int) < 18 := by omega
              obtain ⟨k1, k2, k3, k4, k5, d, hac⟩ := dC_ex A2 (p2.map Prod.snd) st x
              obtain ⟨A', hA'⟩ : ∃ A', dA A2 (p2.map Prod.snd) st x = A' := ⟨_, rfl⟩
              have hst := dx_step (i := 7) L0.out rfl HP.out.1.dk (Lib.hid hac) (Lib.hid hA')
              have HP2 : ∃ T3, Hid (Pd ((j + 1 : Nat) : Int) A' T3 (dL L2 (p2.map Prod.snd) st) ((dB p2 st).map Prod.snd) (dS p2 st) (dX A2 (p2.map Prod.snd) st x) ∧ pend (dL L2 (p2.map Prod.snd) st) ((dB p2 st).map Prod.snd) = LF ∧ (dB p2 st = [] ∨ on bs.length (dB p2 st) (dS p2 st) = j + 1) ∧ (dB p2 st).length ≤ bs.length) := by
                obtain ⟨hp1, hp2, hp3, hp4⟩ := HP.out
                obtain ⟨T3, hp5⟩ := hp1.next (by omega)
                rw [hA', dB_map, dS_map] at hp5
                refine ⟨T3, Lib.hid ⟨hp5, ?_, ?_, ?_⟩⟩
                · rw [← dB_map, pend_next]; exact hp2
                · by_cases hn : p2 = []
                  · subst hn; exact .inl rfl
                  · right; rw [(on_next hn hp4 hp1.dk.st2).1, hp3.resolve_left hn]
                · by_cases hn : p2 = []
                  · subst hn; exact Nat.zero_le _
                  · exact (on_next hn hp4 hp1.dk.st2).2
              obtain ⟨T3, HP2⟩ := HP2
              clear hac hA'
              have c0_0_0 : wr.cell? ⟨gp, 0, none⟩ = some (.pointer (some ⟨b, 0, none⟩)) := L0.out.c 0 0 rfl rfl
              go_wp2_with (go_at_call 61; (with_reducible refine hst.mono ?_); rintro e w7 ⟨rfl, v3, hL⟩)
              have L1 : Hid (Lo wa lo hi b rb hq A' A1 [bx gp TP #[.pointer (some ⟨b, 0, none⟩), .pointer (some ⟨rb, 0, none⟩)], lM g (.slice As 6 cs) s3 [], bx gw 109 (va V), bx gs 110 (sn bs), ro V LF 0, ro V LF 1, ro V LF 2, dM gd v3 (dB p2 st) (dS p2 st) (dX A2 (p2.map Prod.snd) st x)] w7) := Lib.hid hL
              clear hL hst HP L0
              go_roundw
              case rel => exact ⟨j + 1, A', T3, _, v3, _, _, _, by omega, by go_num, HP2, L1⟩
              case measure => (first | (simp [intOf]; omega) | simp [intOf])
            · have hj18 : j = 18 := by omega
              have hgeI : (18 : Int) ≤ j := by omega
              have hn : p2 = [] := by
                rcases HP.out.2.2.1 with h | h
                · exact h
                · cases p2 with
                  | nil => rfl
                  | cons a t => have h2 := HP.out.1.dk.st2; have h3 := HP.out.2.2.2; unfold on at h; simp only [List.length_cons] at h h3; omega
              subst hn
              have HC : Hid (Ch 18 A2 T2 L2) := Lib.hid (HP.out.1.ch.more (by omega))
              have hLL : L2 = LF := HP.out.2.1
              subst hLL
              clear HP hlt hj hj18
              go_wp2_with fail
              go_loopw [14] (fun iv wr => ∃ (k : Nat), k ≤ 3 ∧ iv = .int .i64 k ∧ Hid (Lo wa lo hi b rb hq A2 A1 [bx gp TP #[.pointer (some ⟨b, 0, none⟩), .pointer (some ⟨rb, 0, none⟩)], lM g (.slice As 6 cs) s3 [], bx gw 109 (va V), bx gs 110 (sn bs), ro V L2 0, ro V L2 1, ro V L2 2, dM gd v2 [] st x] wr)) (fun iv _ => 3 - (intOf iv).toNat)
              case atStart => exact ⟨0, by omega, rfl, L0⟩
              case round =>
                clear L0
                obtain ⟨k, hk3, rfl, L0⟩ := hrel
                by_cases hlt : k < 3
                · have hltI : (k : Int) < 3 := by omega
                  have him := lo_imageH L0.out HC.out.l3 HC.out.l4 HC.out.l5
                  have c0_0_0 : wr.cell? ⟨gp, 0, none⟩ = some (.pointer (some ⟨b, 0, none⟩)) := L0.out.c 0 0 rfl rfl
                  have hls : ∀ wx c t s vd vo vl vh vn, Lo wa lo hi b rb hq A2 A1 [bx gp TP #[.pointer (some ⟨b, 0, none⟩), .pointer (some ⟨rb, 0, none⟩)], lM g (.slice As 6 cs) s3 [], bx gw 109 (va V), bx gs 110 (sn bs), ro V L2 0, ro V L2 1, ro V L2 2, dM gd v2 [] st x] wx → (∃ p n c, vd = .slice p n c) → (∃ p n c, vo = .slice p n c) → (∃ p n c, vl = .slice p n c) → Rd wx vh (A2 7) → Rd wx vn (A2 8) → Calls Try.prog 45 #[imgV vd vo c t s vl vh vn, .int .i64 k] wx _ := fun wx c t s vd vo vl vh vn h h1 h2 h3 hH hN => lo_list h HC.out (by decide) h1 h2 h3 hH hN k (by omega) (H1C.out k)
                  have hks : ∀ wx Aa ca, Lo wa lo hi b rb hq A2 A1 [bx gp TP #[.pointer (some ⟨b, 0, none⟩), .pointer (some ⟨rb, 0, none⟩)], lM g (.slice As 6 cs) s3 [], bx gw 109 (va V), bx gs 110 (sn bs), ro V L2 0, ro V L2 1, ro V L2 2, dM gd v2 [] st x] wx → RdS .i64 wx (.slice Aa (L2 k).length ca) (bI (L2 k)) → wx.cell? ⟨gw, k, none⟩ = some (V k) ∧ Calls Try.prog 47 #[.slice Aa (L2 k).length ca, V k] wx _ := fun wx Aa ca h hr => ⟨h.c 2 k rfl (va_at hlt), k_ints wx _ _ (bI (L2 k)) ⟨_, _, hr.choose_spec.choose_spec.1, hr.choose_spec.choose_spec.2.2.2⟩ (rdi_of (ro_rd (h.is (4 + k) _ (ex_left (ex2 := [_]) (ro_at hlt _ _ _ _))))) (by unfold bI; rw [List.length_map]; have := len_counts (HC.out.lcl k (by omega)); have := H1C.out k 0; have := H1C.out k 1; have := H1C.out k 2; have := H1C.out k 3; have := H1C.out k 4; have := H1C.out k 5; omega)⟩
                  go_wp2_with (first
                | (go_at_call 17; (with_reducible refine him.mono ?_); rintro e y7 ⟨ic, it, is9, vd, vo, vl, vh, vn, rfl, h1, h2, h3, hH, hN, hL7⟩; have hls := hls _ ic it is9 _ _ _ _ _ hL7 h1 h2 h3 hH hN)
                | (go_at_call 45; (with_reducible refine hls.mono ?_); rintro e y8 ⟨Aa, ca, rfl, hr8, hL8⟩; obtain ⟨q8, hks⟩ := hks _ _ _ hL8 hr8)
                | (go_at_call 47; (with_reducible refine hks.mono ?_); rintro e y9 ⟨rfl, nw, rfl⟩))
                  have L1 : Hid (Lo wa lo hi b rb hq A2 A1 [bx gp TP #[.pointer (some ⟨b, 0, none⟩), .pointer (some ⟨rb, 0, none⟩)], lM g (.slice As 6 cs) s3 [], bx gw 109 (va V), bx gs 110 (sn bs), ro V L2 0, ro V L2 1, ro V L2 2, dM gd v2 [] st x] ((y8.drewN nw))) := Lib.hid (hL8.drewN nw)
                  clear hL8 hL7 hH hN hr8 q8 L0
                  go_roundw
                  case rel => exact ⟨k + 1, by omega, by go_num, L1⟩
                  case measure => (first | (simp [intOf]; omega) | simp [intOf])
                · obtain rfl : k = 3 := by omega
                  have hdn := dx_done (i := 7) (D := true) L0.out rfl (Lib.hid rfl)
                  have hbk := x_blocks (i := 1) (n := 0) L0.out rfl rfl (by decide)
                  go_wp2_with (first
                | (go_at_call 58; (with_reducible refine hdn.mono ?_); rintro e y1 ⟨rfl, rfl⟩)
                | (go_at_call 63; (with_reducible refine hbk.mono ?_); rintro e y3 ⟨Ab, cb, rfl, hL3⟩)
                | (go_at_call 48; (with_reducible refine (l_awake _).mono ?_); rintro e wz ⟨rfl, hbz⟩))
                  have HF := Lib.hid (below_trans2 HB1.out (below_trans2 hL3.old hbz))
                  clear hbz hL3 hbk hdn L0
                  go_ret
                  exact ⟨rfl, .of_below HF.out⟩

/-! The row's step. -/
set_option maxRecDepth 100000 in
theorem lifted (os : Os) (started : os.Started) (H : Type) (enc : TypeId × Value → H) :
    ReturnsInHanded {} Try.checked os 9 .any (Rows.limboClassesSpec.pre6 enc Try.prog Try.f9 Rows.limboClassesRow.domain false) (Rows.limboClassesSpec.post enc Try.prog Try.f9 false true false false) := by
  refine returnsInHanded_of_change (C := Try.checked) own started (by kernel_rfl) Try.func9
    (ChangeSpec.witness6 (enc := enc) (C := Try.checked) false ⟨#[], #[.slice none 0 0], []⟩ 8 (by kernel_rfl) (by kernel_rfl) (by kernel_rfl) (by kernel_rfl)) ?_
  intro W base args ds gs before hval0 hW hcnd _
  have hval : ∀ (j : Nat) t v, Try.f9.params[j]? = some t → args[j]? = some v → Value.okWide Try.prog W .any base t v := hval0
  have hW' := hW
  obtain ⟨p, q, hA0, hV, rfl, hfz, hnd⟩ := hW
  have hA : DataW.TrodAll enc Try.prog W 0 (fun _ => true) true Try.f9.params.toList args.toList ds p := hA0
  rw [Try.params9] at hA hval
  obtain ⟨v0, vs0, d0, ds0, p0, q0, hargs, rfl, rfl, h0, r0⟩ := trodAll_cons hA
  obtain ⟨rfl, rfl, rfl⟩ := trodAll_nil r0
  obtain rfl : args = #[v0] := by cases args; simp_all
  obtain ⟨rfl, rfl⟩ := trodVars_none hV
  have hk : ∀ W', Kept W W' → Rows.limboClassesSpec.post enc Try.prog Try.f9 false true false false W #[v0] (.bool true) W' := fun W' hb =>
    post_law laidOut readable rfl Try.underlying4 rfl hW' rfl hb
  clear hA0 hval0 hA hW'
  obtain ⟨A0, n0, c0, z0, rfl, l0, m0, s0⟩ := open_slice Try.underlying47 Try.underlying3 cells3 (hval 0 47 v0 rfl rfl) h0
  refine (walk W A0 n0 c0 z0 l0 m0 s0).mono fun e W' ⟨he, hg⟩ => ?_
  subst he
  exact ⟨_, rfl, hk W' hg⟩

theorem over : Rows.limboClassesRow.holds Try.pinned (OpenSpec.ofChange Rows.limboClassesSpec) :=
  OpenClaim.holds_of_wide 9 Try.f9 rfl rfl rfl rfl rfl rfl rfl ⟨rfl, rfl, rfl, rfl, rfl⟩ rfl rfl rfl rfl rfl (by kernel_rfl) Try.func9 (by kernel_rfl)
    (of_decide_eq_true (by kernel_rfl)) (by unfold Func.isWrapper; first | (rw [if_pos (by decide +kernel)]; kernel_rfl) | (rw [if_neg (by decide +kernel)]; exact ⟨rfl, rfl⟩))
    (fun os started H enc _ => lifted os started H enc)

/-- The statement. -/
theorem proved : Rows.LimboClassesSaid :=
  over
#print axioms proved
end Go.Proofs.Ytpjbmbipkmpkhaa.limboClasses
