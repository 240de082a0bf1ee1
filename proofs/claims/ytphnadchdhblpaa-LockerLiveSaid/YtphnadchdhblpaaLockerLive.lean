/-
  Proved: there is no deadlock: after any schedule, rounds in which every thread steps, and releases when it has all its orecs, come to an end with everything released. No condition.
-/
import Derived.Test.YtphnadchdhblpaaRows
import Derived.WalkKit
import Derived.ProofKit
import Derived.OpenShut
import Derived.Test.YtphnadchdhblpaaFrame
import Derived.Test.YtphnadchdhblpaaLkR
import Derived.Deep.RegionHeld3
import Derived.Deep.RegionLaw
namespace Go.Proofs.Ytphnadchdhblpaa.lockerLive
open Go.ChangeShapes Go.WideShapes Go.ChangeAt Go.RowKit
open LawFrame
open Go.ChangeMaps (open_string)
set_option linter.unusedVariables false

theorem own : ownKnob Try.prog.godebug = none := by kernel_rfl
theorem laidOut : laidOutB Try.prog = true := by kernel_rfl
theorem cells3 : Try.prog.cellsOf 3 = 1 := by kernel_rfl

open LawFrame PlainT BlkW LayS LayA LayH LayK LayP CelS CelM CelP CelV CelN CelO CelF LabD LabR LabP LabS LabX LabN CelLo RsA ObjA LkP LkQ SrtA LkA LkB LkL LkR
set_option maxHeartbeats 20000000
set_option maxRecDepth 100000
abbrev TG : TypeId := 90

theorem readable : ∀ t ∈ Try.f8.params.toList, Try.prog.readableRec t = true ∧ t < Try.prog.types.size := by
  have h : (Try.f8.params.toList.all fun t => Try.prog.readableRec t && decide (t < Try.prog.types.size)) = true := by kernel_rfl
  intro t ht
  have := List.all_eq_true.1 h t ht
  simpa using this

/-! The walk. -/
theorem walk (w : World) (A0 : Option Addr) (n0 c0 : Nat) (l0 : n0 ≤ c0) (m0 : c0 ≤ maxLen) (s0 : ArgL.LL w A0 n0) (A1 : Option Addr) (n1 c1 : Nat) (z1 : List Int) (l1 : n1 ≤ c1) (m1 : c1 ≤ maxLen) (s1 : Ints .i64 w A1 n1 z1) :
    Calls Try.prog 8 #[.slice A0 n0 c0, .slice A1 n1 c1] w fun e w' => e = .returned (.bool true) ∧ Kept w w' := by
  obtain ⟨W, hW⟩ := l_wants s0 c0
  have HW := Lib.hid hW
  have HZ := Lib.hid s1
  obtain ⟨S, hSW⟩ : ∃ S : Nat → List Int, ∀ u, S u = srt (W u) := ⟨fun u => srt (W u), fun _ => rfl⟩
  have HS : Hid (SOk S) := Lib.hid (sok_of (fun t ht => ⟨(hW t ht).1, (hW t ht).2.1⟩) hSW)
  have HSW := Lib.hid hSW
  clear s0 s1 hW hSW l0 m0 l1 m1
  go_enter Try.func8, Try.ntmps8
  by_cases hbig : (60 : Int) < n1
  · go_wp2_with (go_at_call 41; (with_reducible refine (l_awake _).mono ?_); rintro e wz ⟨rfl, hbz⟩)
    have HB1 := Lib.hid hbz
    clear hbz
    go_ret
    exact ⟨rfl, .of_below HB1.out⟩
  · have hn60 : (n1 : Int) ≤ 60 := by omega
    clear hbig
    go_upto_region 4 with (first
      | (go_at_call 46; (with_reducible refine (l_config15 _).mono ?_); rintro e w1 ⟨rfl, hb1⟩)
      | (go_at_call 30; (with_reducible refine (l_start15 3 3 rfl (by decide) (by decide) _).mono ?_); rintro e w2 ⟨A, lo, hi, b, rb, rfl, hst⟩))
    have L0 : Hid (Lo w1 lo hi b rb q6 A A [] w2) := Lib.hid (Lo.begunN hst)
    have HA := Lib.hid (begun_six hst)
    have HB1 := Lib.hid hb1
    clear hst hb1
    have L1 := Lib.hid (L0.out.new TP #[.pointer (some ⟨b, 0, none⟩), .pointer (some ⟨rb, 0, none⟩)])
    obtain ⟨gp, hn⟩ : ∃ gp, w2.heap.size = gp := ⟨_, rfl⟩
    rw [hn] at L1
    first | rw [hn] | skip
    clear hn
    obtain ⟨W1, hW⟩ : ∃ W', w2.alloc (.cells #[.pointer (some ⟨b, 0, none⟩), .pointer (some ⟨rb, 0, none⟩)] TP) = W' := ⟨_, rfl⟩
    rw [hW] at L1
    first | rw [hW] | skip
    clear hW
    have L1 : Hid (Lo w1 lo hi b rb q6 A A [bx gp TP #[.pointer (some ⟨b, 0, none⟩), .pointer (some ⟨rb, 0, none⟩)]] W1) := L1
    clear L0
    go_upto_region 7 with (fail)
    have L2 := Lib.hid (L1.out.new TA3 #[.pointer none, .pointer none, .pointer none])
    obtain ⟨ga, hn⟩ : ∃ ga, W1.heap.size = ga := ⟨_, rfl⟩
    rw [hn] at L2
    first | rw [hn] | skip
    clear hn
    obtain ⟨W2, hW⟩ : ∃ W', W1.alloc (.cells #[.pointer none, .pointer none, .pointer none] TA3) = W' := ⟨_, rfl⟩
    rw [hW] at L2
    first | rw [hW] | skip
    clear hW
    have L2 : Hid (Lo w1 lo hi b rb q6 A A [bx gp TP #[.pointer (some ⟨b, 0, none⟩), .pointer (some ⟨rb, 0, none⟩)], bx ga TA3 #[.pointer none, .pointer none, .pointer none]] W2) := L2
    clear L1
    go_wp2_with fail
    go_loopw [8] (fun iv wr => ∃ (t : Nat) (g : Nat → Nat) (o : Nat → Ob), t ≤ 3 ∧ iv = .int .i64 t ∧ Hid (∀ u, u < t → ∃ vl, o u = lkM (g u) u vl (.slice none 0 0) (lst S u 0 false 0)) ∧ Hid (Lo w1 lo hi b rb q6 A A ([bx gp TP #[.pointer (some ⟨b, 0, none⟩), .pointer (some ⟨rb, 0, none⟩)], bx ga TA3 (A3 (gp3 g t))] ++ Tn o t) wr)) (fun iv _ => 3 - (intOf iv).toNat)
    case atStart => exact ⟨0, fun _ => 0, fun _ => nob, by omega, rfl, Lib.hid (fun u h => absurd h (Nat.not_lt_zero _)), L2⟩
    case round =>
      clear L2
      obtain ⟨t, g, o, ht3, rfl, HO, L0⟩ := hrel
      by_cases ht : t < 3
      · have htI : (t : Int) < 3 := by omega
        have ht0 : (0 : Int) ≤ t := by omega
        have hB := below_trans2 HB1.out L0.out.old
        obtain ⟨hw8, hw5, hwa⟩ := HW.out t ht
        have hwa := hwa wr hB
        have hnl : ∀ w2 p c, Below wr.heap.size wr w2 → RdR .i64 w2 (.slice p (W t).length c) (W t) → Calls _ _ _ _ _ := fun w2 p c hb hr => x_new (L0.out.below hb) t (.slice p (W t).length c) (W t) hr (by omega)
        have hpost : ∀ w3 g1 v1, Lo w1 lo hi b rb q6 A A (([bx gp TP #[.pointer (some ⟨b, 0, none⟩), .pointer (some ⟨rb, 0, none⟩)], bx ga TA3 (A3 (gp3 g t))] ++ Tn o t) ++ [lkM g1 t v1 (.slice none 0 0) ⟨srt (W t), [], false, 0⟩]) w3 → w3.cell? ⟨ga, t, none⟩ = some (.pointer none) ∧ w3.frozen? ⟨ga, t, none⟩ = false ∧ Lo w1 lo hi b rb q6 A A ([bx gp TP #[.pointer (some ⟨b, 0, none⟩), .pointer (some ⟨rb, 0, none⟩)], bx ga TA3 (A3 (gp3 (upf g t g1) (t + 1)))] ++ Tn (upf o t (lkM g1 t v1 (.slice none 0 0) (lst S t 0 false 0))) (t + 1)) (w3.setCell ⟨ga, t, none⟩ (ptrV g1)) ∧ (w3.setCell ⟨ga, t, none⟩ (ptrV g1)).cell? ⟨ga, t, none⟩ = some (ptrV g1) := fun w3 g1 v1 h => by
          rw [← HSW.out t] at h
          have h2 := lv_new (g1 := g1) ht h
          refine ⟨(h.c 1 t rfl (a3_at ht)).trans (by unfold gp3; rw [if_neg (by omega)]), h.z 1 t rfl, h2, (h2.c 1 t rfl (a3_at ht)).trans (by unfold gp3; rw [if_pos (by omega), upf_at])⟩
        go_upto_region 11 with (first
          | (go_at_call 48; (with_reducible refine hwa.mono ?_); rintro e w3 ⟨pw, cw, rfl, hrw, hbw⟩; have hnl := hnl _ _ _ hbw hrw)
          | (go_at_call 47; (with_reducible refine hnl.mono ?_); rintro e w4 ⟨g1, v1, rfl, hL⟩; obtain ⟨hc1, hc2, hL2, hc3⟩ := hpost _ _ _ hL))
        have L1 := Lib.hid hL2
        clear hpost hwa hnl hrw hbw hL hc1 hc2 hL2 hB L0
        have HO2 : Hid (∀ u, u < t + 1 → ∃ vl, upf o t (lkM g1 t v1 (.slice none 0 0) (lst S t 0 false 0)) u = lkM (upf g t g1 u) u vl (.slice none 0 0) (lst S u 0 false 0)) := Lib.hid fun u hu => by
          by_cases e : u = t
          · subst e
            exact ⟨v1, by rw [upf_at, upf_at]⟩
          · rw [upf_ne e, upf_ne e]
            exact HO.out u (by omega)
        go_wp2_with fail
        go_roundw
        case rel => exact ⟨t + 1, _, _, by omega, by go_num, HO2, L1⟩
        case measure => simp [intOf]; omega
      · obtain rfl : t = 3 := by omega
        have HI : Hid (LvI S g ⟨fun _ => 0, fun _ => false, fun _ => false, A 2⟩ o A) := Lib.hid (lv_start HA.out.1 HA.out.2 HO.out)
        have L1 : Hid (Lo w1 lo hi b rb q6 A A ([bx gp TP #[.pointer (some ⟨b, 0, none⟩), .pointer (some ⟨rb, 0, none⟩)], bx ga TA3 (A3 fun u => ptrV (g u))] ++ Tn o 3) wr) := Lib.hid (by have := L0.out; rw [show A3 (gp3 g 3) = A3 fun u => ptrV (g u) from a3_congr fun u hu => by unfold gp3; rw [if_pos hu]] at this; exact this)
        clear L0 HO ht ht3
        go_wp2_with fail
        go_loopw [9] (fun iv wr => ∃ (i : Nat) (s : SL) (o2 : Nat → Ob) (A2 : Int → List Int), i ≤ n1 ∧ iv = .int .i64 i ∧ Hid (∀ u, s.n u = false) ∧ Hid (LvI S g s o2 A2) ∧ Hid (Lo w1 lo hi b rb q6 A2 A ([bx gp TP #[.pointer (some ⟨b, 0, none⟩), .pointer (some ⟨rb, 0, none⟩)], bx ga TA3 (A3 fun u => ptrV (g u))] ++ Tn o2 3) wr)) (fun iv _ => n1 - (intOf iv).toNat)
        case atStart => exact ⟨0, ⟨fun _ => 0, fun _ => false, fun _ => false, A 2⟩, o, A, by omega, rfl, Lib.hid (fun _ => rfl), HI, L1⟩
        case round =>
          clear L1 HI HA
          obtain ⟨i, s, o2, A2, hin, rfl, HN, HI, L0⟩ := hrel
          by_cases hlt : i < n1
          · have hltI : (i : Int) < n1 := by omega
            obtain ⟨bp, po, x, rfl, _, c1⟩ := iat HZ.out (below_trans2 HB1.out L0.out.old) hlt
            obtain ⟨t, ht, hpl⟩ := pl3 x
            have hkp := k_place x 3 t (by decide) (by decide) hpl
            have htI : (t : Int) < 3 := by omega
            have ht0 : (0 : Int) ≤ t := by omega
            obtain ⟨vl, vo, f, hf, hot⟩ := HI.out.ob t ht
            have hst := z_step L0.out.drew ht hot HS.out HI.out.gi (show eff s t = s.k t by unfold eff; rw [HN.out t]; rfl) (HI.out.le t ht) hf
            have hkk : ∀ (W : World) (A3_ : Int → List Int) (o3 : Nat → Ob), Lo w1 lo hi b rb q6 A3_ A ([bx gp TP #[.pointer (some ⟨b, 0, none⟩), .pointer (some ⟨rb, 0, none⟩)], bx ga TA3 (A3 fun u => ptrV (g u))] ++ Tn o3 3) W → (fun W : World => W.cell? ⟨bp, po + i, none⟩ = some (.int .i64 x) ∧ W.cell? ⟨ga, t, none⟩ = some (ptrV (g t)) ∧ W.cell? ⟨gp, 0, none⟩ = some (.pointer (some ⟨b, 0, none⟩))) W := fun W A3_ o3 h => ⟨(iat_at HZ.out (below_trans2 HB1.out h.old) hlt c1 (below_trans2 HB1.out L0.out.old)), h.c 1 t rfl (a3_at ht), h.c 0 0 rfl rfl⟩
            have hs0 : (fun W : World => W.cell? ⟨bp, po + i, none⟩ = some (.int .i64 x) ∧ W.cell? ⟨ga, t, none⟩ = some (ptrV (g t)) ∧ W.cell? ⟨gp, 0, none⟩ = some (.pointer (some ⟨b, 0, none⟩))) wr.drew := hkk _ _ _ L0.out.drew
            clear hpl c1 hot
            go_upto_region 16 with (fail)
            go_region_held3 (fun W : World => W.cell? ⟨bp, po + i, none⟩ = some (.int .i64 x) ∧ W.cell? ⟨ga, t, none⟩ = some (ptrV (g t)) ∧ W.cell? ⟨gp, 0, none⟩ = some (.pointer (some ⟨b, 0, none⟩))) (first | (with_reducible exact hs0) | (with_reducible assumption)) (first
              | (go_at_call 11; (with_reducible refine (hkp _).mono ?_); rintro e w5 ⟨rfl, rfl⟩)
              | (go_at_call 53; (with_reducible refine hst.mono ?_); rintro e w6 ⟨v6, A3, vl', vo', k', r', f', rfl, hL, hA3, hf', hk', hI', hcase⟩; have hk1 := hkk _ _ _ hL))
            have L1 := Lib.hid hL
            have HI2 := Lib.hid (lv_step HI.out ht (HN.out t) (vl' := vl') (vo' := vo') hA3 hf' hk' hI' hcase).1
            clear hs0 hk1 hkk hL hA3 hf' hk' hI' hcase hst hkp hf L0
            go_wp2_with fail
            go_roundw
            case rel => exact ⟨i + 1, ⟨upf s.k t k', upf s.r t r', s.n, A3 2⟩, _, A3, by omega, by go_num, HN, HI2, L1⟩
            case measure => simp [intOf]; omega
          · obtain rfl : i = n1 := by omega
            clear hlt hin
            go_upto_region 18 with (fail)
            have L1 := Lib.hid (L0.out.new TG #[.bool false, .bool false, .bool false])
            obtain ⟨gn, hgn⟩ : ∃ gn, wr.heap.size = gn := ⟨_, rfl⟩
            rw [hgn] at L1
            first | rw [hgn] | skip
            clear hgn
            obtain ⟨W3, hW3⟩ : ∃ W', wr.alloc (.cells #[.bool false, .bool false, .bool false] TG) = W' := ⟨_, rfl⟩
            rw [hW3] at L1
            first | rw [hW3] | skip
            clear hW3
            have L2 : Hid (Lo w1 lo hi b rb q6 A2 A ([bx gp TP #[.pointer (some ⟨b, 0, none⟩), .pointer (some ⟨rb, 0, none⟩)], bx ga TA3 (A3 fun u => ptrV (g u)), bx gn TG (A3 fun u => .bool (s.n u))] ++ Tn o2 3) W3) := Lib.hid (by
              have h := L1.out
              rw [List.append_assoc] at h
              have h2 := h.inX
              rw [show #[Value.bool false, .bool false, .bool false] = A3 fun u => .bool (s.n u) by simp only [A3, HN.out]] at h2
              exact h2)
            have HBD : Hid (allGone s ∨ (0 ≤ 54 ∧ Bd S (54 - 0) s)) := Lib.hid (.inr ⟨by decide, by
              have e : s = ⟨s.k, s.r, fun _ => false, s.V⟩ := by
                have : s.n = fun _ => false := funext HN.out
                rw [← this]
              rw [e]
              exact bd_start HS.out _ _ _⟩)
            clear L0 L1 HN
            go_wp2_with fail
            go_loopw [11] (fun iv wr => ∃ (n : Nat) (s : SL) (o2 : Nat → Ob) (A2 : Int → List Int), n ≤ 120 ∧ iv = .int .i64 n ∧ Hid (LvI S g s o2 A2) ∧ Hid (allGone s ∨ (n ≤ 54 ∧ Bd S (54 - n) s)) ∧ Hid (Lo w1 lo hi b rb q6 A2 A ([bx gp TP #[.pointer (some ⟨b, 0, none⟩), .pointer (some ⟨rb, 0, none⟩)], bx ga TA3 (A3 fun u => ptrV (g u)), bx gn TG (A3 fun u => .bool (s.n u))] ++ Tn o2 3) wr)) (fun iv _ => 120 - (intOf iv).toNat)
            case atStart => exact ⟨0, s, o2, A2, by omega, rfl, HI, HBD, L2⟩
            case round =>
              clear L2 HI HBD
              obtain ⟨n, s, o2, A2, hn120, rfl, HI, HBD, L0⟩ := hrel
              by_cases hlt : n < 120
              · have hltI : (n : Int) < 120 := by omega
                go_wp2_with fail
                go_loopw [12] (fun iv wr => ∃ (t : Nat) (s4 : SL) (o4 : Nat → Ob) (A4 : Int → List Int), t ≤ 3 ∧ iv = .int .i64 t ∧ Hid (LvI S g s4 o4 A4) ∧ Hid (Rd S s t s4 ∧ (allGone s → s4 = s)) ∧ Hid (Lo w1 lo hi b rb q6 A4 A ([bx gp TP #[.pointer (some ⟨b, 0, none⟩), .pointer (some ⟨rb, 0, none⟩)], bx ga TA3 (A3 fun u => ptrV (g u)), bx gn TG (A3 fun u => .bool (s4.n u))] ++ Tn o4 3) wr)) (fun iv _ => 3 - (intOf iv).toNat)
                case atStart => exact ⟨0, s, o2, A2, by omega, rfl, HI, Lib.hid ⟨rd_start S s, fun _ => rfl⟩, L0⟩
                case round =>
                  obtain ⟨t, s4, o4, A4, ht3, rfl, HI4, HR4, L4⟩ := hrel
                  by_cases ht : t < 3
                  · have htI : (t : Int) < 3 := by omega
                    have ht0 : (0 : Int) ≤ t := by omega
                    clear L0
                    have c1 : wr.cell? ⟨gn, t, none⟩ = some (.bool (s4.n t)) := L4.out.c 2 t rfl (a3_at ht)
                    have c2 : wr.cell? ⟨ga, t, none⟩ = some (ptrV (g t)) := L4.out.c 1 t rfl (a3_at ht)
                    have c3 : wr.cell? ⟨gp, 0, none⟩ = some (.pointer (some ⟨b, 0, none⟩)) := L4.out.c 0 0 rfl rfl
                    cases hn : s4.n t with
                    | true =>
                      rw [hn] at c1
                      have HR5 : Hid (Rd S s (t + 1) s4 ∧ (allGone s → s4 = s)) := Lib.hid ⟨rd_next ht HR4.out.1 (.gone hn rfl), HR4.out.2⟩
                      clear hn
                      go_wp2_with fail
                      go_roundw
                      case rel => exact ⟨t + 1, s4, o4, A4, by omega, by go_num, HI4, HR5, L4⟩
                      case measure => simp [intOf]; omega
                    | false =>
                      rw [hn] at c1
                      obtain ⟨vl, vo, f, hf, hot⟩ := HI4.out.ob t ht
                      have hat : ([bx gp TP #[.pointer (some ⟨b, 0, none⟩), .pointer (some ⟨rb, 0, none⟩)], bx ga TA3 (A3 fun u => ptrV (g u)), bx gn TG (A3 fun u => .bool (s4.n u))] ++ Tn o4 3)[3 + t]? = some (lkM (g t) t vl vo (lst S t (s4.k t) (s4.r t) f)) := by rw [← hot]; exact lo_at ht
                      have hle := HI4.out.le t ht
                      have heff : eff s4 t = s4.k t := by unfold eff; rw [hn]; rfl
                      have HG : Hid (s4.n t = false) := Lib.hid hn
                      clear hn
                      by_cases hd : s4.k t = (S t).length
                      · have hdn := x_done L4.out hat (D := true) (Lib.hid (by simpa using hd))
                        have hB := below_trans2 HB1.out L4.out.old
                        obtain ⟨hw8, hw5, hwa⟩ := HW.out t ht
                        have hwa := hwa wr hB
                        have hso := fun (W3 : World) (p : Option Addr) (c : Nat) (hr : RdR .i64 W3 (.slice p (W t).length c) (W t)) => k_sorted W3 (.slice p (W t).length c) (W t) hr.slice (by omega)
                        obtain ⟨m, hm⟩ : ∃ m, (S t).length = m := ⟨_, rfl⟩
                        have hold := fun (W : World) (hb : Below wr.heap.size wr W) => z_old (L4.out.below hb) hat (lst_ok HS.out ht hle hf) (hd.trans hm)
                        have hkm : s4.k t = m := hd.trans hm
                        have hm8 : m ≤ 8 := by rw [← hm]; exact HS.out.few t ht
                        have hrn : ∀ (W5 : World) (p1 : Option Addr) (c1 : Nat) (p2 : Option Addr) (c2 : Nat), Below wr.heap.size wr W5 → RdR .i64 W5 (.slice p1 m c1) (S t) → RdR .u64 W5 (.slice p2 m c2) (List.replicate m 0) → Calls _ _ _ _ _ := fun W5 p1 c1 p2 c2 hb h1 h2 => y_new (L4.out.below hb) (.slice p1 m c1) (.slice p2 m c2) (S t) (List.replicate m 0) h1 h2 (by simp [hm]) (by omega)
                        have HK := Lib.hid hkm
                        have HM := Lib.hid hm
                        have hne : ∀ g9 : Nat, ∀ w9 : World, (binOp BinOp.eql 85 (.pointer (some ⟨g9, 0, none⟩)) (.pointer none)).run Try.prog w9 = .ok (.bool false) w9 := fun _ _ => by kernel_rfl
                        clear hB hd hle hf hot heff hkm hm
                        go_upto_region 31 with (first
                          | (go_at_call 49; (with_reducible refine hdn.mono ?_); rintro e w3 ⟨rfl, rfl⟩)
                          | (go_at_call 48; (with_reducible refine hwa.mono ?_); rintro e w4 ⟨pw, cw, rfl, hrw, hbw⟩; have hso := hso _ _ _ hrw)
                          | (go_at_call 44; (with_reducible refine hso.mono ?_); rintro e w5 ⟨v5, rfl, ho5, hb5⟩; rw [← HSW.out t, HM.out] at ho5; obtain ⟨p5, c5, rfl, _⟩ := own_slice ho5; have hb15 := below_trans2 hbw hb5; have hold := hold _ hb15; have c2b : w5.cell? ⟨ga, t, none⟩ = some (ptrV (g t)) := (L4.out.below hb15).c 1 t rfl (a3_at ht))
                          | (go_at_call 50; (with_reducible refine hold.mono ?_); rintro e w6 ⟨p6, c6, rfl, ho6, hb6⟩; have hb16 := below_trans2 hb15 hb6; have hrn := hrn w6 p5 c5 p6 c6 hb16 (rdr_below (rdr_own (by rw [HM.out]; exact ho5)) hb6) ho6)
                          | (go_at_call 51; (with_reducible refine hrn.mono ?_); rintro e w7 ⟨gr, q1, d1, q2, d2, rfl, hL7⟩))
                        have HL7 := Lib.hid hL7
                        clear hL7 hdn hwa hso hold hrn hrw hbw ho5 hb5 hb15 ho6 hb6 hb16 c1 c2 c3 c2b L4
                        go_wp2_with fail
                        go_loopw [15] (fun iv wr => ∃ (j : Nat) (A5 : Int → List Int), j ≤ m ∧ iv = .int .i64 j ∧ Hid (A5 2 = relK ((S t).take j) (A4 2) ∧ ∀ k, k ≠ 2 → A5 k = A4 k) ∧ Hid (Lo w1 lo hi b rb q6 A5 A (([bx gp TP #[.pointer (some ⟨b, 0, none⟩), .pointer (some ⟨rb, 0, none⟩)], bx ga TA3 (A3 fun u => ptrV (g u)), bx gn TG (A3 fun u => .bool (s4.n u))] ++ Tn o4 3) ++ [reM gr (.slice q1 (S t).length d1) (.slice q2 (List.replicate m (0 : Int)).length d2) (S t) (List.replicate m 0) j]) wr)) (fun iv _ => m - (intOf iv).toNat)
                        case atStart => exact ⟨0, A4, by omega, rfl, Lib.hid ⟨rfl, fun _ _ => rfl⟩, HL7⟩
                        case round =>
                          clear HL7
                          obtain ⟨j, A5, hjm, rfl, HA5, L7⟩ := hrel
                          by_cases hj : j < m
                          · have hjI : (j : Int) < m := by omega
                            obtain ⟨p, hp6, hp⟩ := nat_at HS.out ht (by rw [HM.out]; exact hj)
                            have hv5 : VOk (A5 2) := by rw [HA5.out.1]; exact relK_vok (gi_vok HI4.out.gi) fun x hx => HS.out.inS t ht x (List.mem_of_mem_take hx)
                            have hst := y_step (i := 6) L7.out rfl hv5 (by rw [List.length_replicate]; exact HM.out) (by rw [HM.out]; omega) hp hp6 (v := 0) (by rw [List.getElem?_replicate, if_pos hj]) rfl
                            have c3 : wr.cell? ⟨gp, 0, none⟩ = some (.pointer (some ⟨b, 0, none⟩)) := L7.out.c 0 0 rfl rfl
                            have HA6 : Hid (upd A5 2 p 0 2 = relK ((S t).take (j + 1)) (A4 2) ∧ ∀ k, k ≠ 2 → upd A5 2 p 0 k = A4 k) := Lib.hid ⟨by rw [upd2, relK_take hp, HA5.out.1]; rfl, fun k hk => (upd_off hk).trans (HA5.out.2 k hk)⟩
                            clear hv5 hp
                            go_wp2_with (go_at_call 52; (with_reducible refine hst.mono ?_); rintro e w8 ⟨rfl, hL⟩; have L8 := Lib.hid hL; clear hL)
                            go_roundw
                            case rel => exact ⟨j + 1, _, by omega, by go_num, HA6, L8⟩
                            case measure => simp [intOf]; omega
                          · obtain rfl : j = m := by omega
                            have hA2 : A5 2 = relK (S t) (A4 2) := by rw [HA5.out.1, ← HM.out, List.take_length]
                            obtain ⟨hI5, hnx⟩ := lv_gone HI4.out HS.out ht HG.out (HK.out.trans HM.out.symm) HA5.out.2 hA2
                            have c4 : wr.cell? ⟨gn, t, none⟩ = some (.bool (s4.n t)) := L7.out.c 2 t rfl (a3_at ht)
                            have c5 : wr.frozen? ⟨gn, t, none⟩ = false := L7.out.z 2 t rfl
                            have L8 : Hid (Lo w1 lo hi b rb q6 A5 A ([bx gp TP #[.pointer (some ⟨b, 0, none⟩), .pointer (some ⟨rb, 0, none⟩)], bx ga TA3 (A3 fun u => ptrV (g u)), bx gn TG (A3 fun u => .bool (upf s4.n t true u))] ++ Tn o4 3) ((wr.setCell ⟨gn, t, none⟩ (.bool true)))) := Lib.hid (by
                              have h := L7.out.drop.put 2 t (.bool true) rfl
                              rw [a3_bool ht] at h
                              exact h)
                            have HI6 := Lib.hid hI5
                            have HR6 : Hid (Rd S s (t + 1) ⟨s4.k, s4.r, upf s4.n t true, A5 2⟩ ∧ (allGone s → (⟨s4.k, s4.r, upf s4.n t true, A5 2⟩ : SL) = s)) := Lib.hid ⟨rd_next ht HR4.out.1 hnx, fun hg => (gone_stays ht (by rw [HR4.out.2 hg]; exact hg) hnx).trans (HR4.out.2 hg)⟩
                            clear hA2 hI5 hnx L7 hj hjm
                            go_wp2_with fail
                            go_roundw
                            case rel => exact ⟨t + 1, ⟨s4.k, s4.r, upf s4.n t true, A5 2⟩, o4, A5, by omega, by go_num, HI6, HR6, L8⟩
                            case measure => simp [intOf]; omega
                      · have hdn := x_done L4.out hat (D := false) (Lib.hid (by simpa using hd))
                        have hst := z_step L4.out.drew ht hot HS.out HI4.out.gi heff hle hf
                        have hkk : ∀ (W : World) (A6 : Int → List Int) (o6 : Nat → Ob), Lo w1 lo hi b rb q6 A6 A ([bx gp TP #[.pointer (some ⟨b, 0, none⟩), .pointer (some ⟨rb, 0, none⟩)], bx ga TA3 (A3 fun u => ptrV (g u)), bx gn TG (A3 fun u => .bool (s4.n u))] ++ Tn o6 3) W → (fun W : World => W.cell? ⟨ga, t, none⟩ = some (ptrV (g t)) ∧ W.cell? ⟨gp, 0, none⟩ = some (.pointer (some ⟨b, 0, none⟩))) W := fun W A6 o6 h => ⟨h.c 1 t rfl (a3_at ht), h.c 0 0 rfl rfl⟩
                        have hs0 : (fun W : World => W.cell? ⟨ga, t, none⟩ = some (ptrV (g t)) ∧ W.cell? ⟨gp, 0, none⟩ = some (.pointer (some ⟨b, 0, none⟩))) wr.drew := hkk _ _ _ L4.out.drew
                        have hlt4 : s4.k t < (S t).length := by omega
                        have HLT := Lib.hid hlt4
                        clear heff hat hot hd hle hlt4
                        go_upto_region 26 with (go_at_call 49; (with_reducible refine hdn.mono ?_); rintro e w3 ⟨rfl, rfl⟩)
                        go_region_held3 (fun W : World => W.cell? ⟨ga, t, none⟩ = some (ptrV (g t)) ∧ W.cell? ⟨gp, 0, none⟩ = some (.pointer (some ⟨b, 0, none⟩))) (first | (with_reducible exact hs0) | (with_reducible assumption)) (first
                          | (go_at_call 53; (with_reducible refine hst.mono ?_); rintro e w6 ⟨v6, A6, vl', vo', k', r', f', rfl, hL, hA3, hf', hk', hI', hcase⟩; have hk1 := hkk _ _ _ hL))
                        obtain ⟨hI5, hnx⟩ := lv_step HI4.out ht HG.out (vl' := vl') (vo' := vo') hA3 hf' hk' hI' hcase
                        have hnx := hnx HLT.out
                        have L8 := Lib.hid hL
                        have HI6 := Lib.hid hI5
                        have HR6 : Hid (Rd S s (t + 1) ⟨upf s4.k t k', upf s4.r t r', s4.n, A6 2⟩ ∧ (allGone s → (⟨upf s4.k t k', upf s4.r t r', s4.n, A6 2⟩ : SL) = s)) := Lib.hid ⟨rd_next ht HR4.out.1 hnx, fun hg => (gone_stays ht (by rw [HR4.out.2 hg]; exact hg) hnx).trans (HR4.out.2 hg)⟩
                        clear hs0 hk1 hkk hL hA3 hf' hk' hI' hcase hst hdn hf hI5 hnx L4 c1 c2 c3
                        go_wp2_with fail
                        go_roundw
                        case rel => exact ⟨t + 1, ⟨upf s4.k t k', upf s4.r t r', s4.n, A6 2⟩, _, A6, by omega, by go_num, HI6, HR6, L8⟩
                        case measure => simp [intOf]; omega
                  · obtain rfl : t = 3 := by omega
                    have HBD2 : Hid (allGone s4 ∨ (n + 1 ≤ 54 ∧ Bd S (54 - (n + 1)) s4)) := Lib.hid (by
                      by_cases hg : allGone s
                      · exact .inl (by rw [HR4.out.2 hg]; exact hg)
                      · rcases HBD.out with h | ⟨h1, h2⟩
                        · exact absurd h hg
                        · obtain ⟨h3, h4⟩ := round_down HS.out (by rw [HI.out.v]; exact HI.out.gi) h2 HR4.out.1 hg
                          exact .inr ⟨by omega, by rw [show 54 - (n + 1) = 54 - n - 1 by omega]; exact h4⟩)
                    clear ht ht3 HR4 HI L0 HBD
                    go_wp2_with fail
                    go_roundw
                    case rel => exact ⟨n + 1, s4, o4, A4, by omega, by go_num, HI4, HBD2, L4⟩
                    case measure => simp [intOf]; omega
              · obtain rfl : n = 120 := by omega
                have hg : allGone s := by
                  rcases HBD.out with h | h
                  · exact h
                  · exact absurd h.1 (by decide)
                have HV : Hid (∀ p, p < 6 → (A2 2).getD p 0 = 0) := Lib.hid fun p hp => zero_of_gone HI.out.gi hg p hp
                have him := lo_image6 L0.out (V := A2 2) rfl HI.out.gi.len HI.out.one
                have HL6 := Lib.hid HI.out.gi.len
                have HG := Lib.hid hg
                have c3 : wr.cell? ⟨gp, 0, none⟩ = some (.pointer (some ⟨b, 0, none⟩)) := L0.out.c 0 0 rfl rfl
                have hfl := @fld_orec
                clear hg HBD hlt hn120 L0
                go_upto_region 37 with (go_at_call 16; (with_reducible refine him.mono ?_); rintro e w6 ⟨ic, it, is_, vd, gi, oi, ci, vl, vh, vn, rfl, hcell, _, _, hLi⟩)
                have HC : Hid (∀ p : Nat, p < 6 → w6.cell? ⟨gi, oi + p, none⟩ = some (.int .u64 0)) := Lib.hid fun p hp => hcell p 0 (by
                  have h0 := HV.out p hp
                  rw [List.getD_eq_getElem?_getD, List.getElem?_eq_getElem (by rw [HL6.out]; exact hp), Option.getD_some] at h0
                  rw [List.getElem?_eq_getElem (by rw [HL6.out]; exact hp), h0])
                have LI := Lib.hid hLi
                clear him hfl hcell hLi c3 HV HL6
                go_wp2_with fail
                go_loopw [17] (fun iv wr => ∃ p : Nat, p ≤ 6 ∧ iv = .int .i64 p ∧ wr = w6) (fun iv _ => 6 - (intOf iv).toNat)
                case atStart => exact ⟨0, by omega, rfl, rfl⟩
                case round =>
                  obtain ⟨p, hp6, rfl, rfl⟩ := hrel
                  by_cases hp : p < 6
                  · have hpI : (p : Int) < 6 := by omega
                    have c6 := HC.out p hp
                    go_wp2_with fail
                    go_roundw
                    case rel => exact ⟨p + 1, by omega, by go_num, by trivial⟩
                    case measure => simp [intOf]; omega
                  · obtain rfl : p = 6 := by omega
                    obtain ⟨g0, g1, g2⟩ := HG.out
                    have b0 : wr.cell? ⟨gn, 0, none⟩ = some (.bool true) := by rw [← g0]; exact LI.out.c 2 0 rfl rfl
                    have b1 : wr.cell? ⟨gn, 1, none⟩ = some (.bool true) := by rw [← g1]; exact LI.out.c 2 1 rfl rfl
                    have b2 : wr.cell? ⟨gn, 2, none⟩ = some (.bool true) := by rw [← g2]; exact LI.out.c 2 2 rfl rfl
                    have hag : ∀ wx : World, (Op.equalIn 10000 90 (.agg #[.bool true, .bool true, .bool true]) (.agg #[.bool true, .bool true, .bool true])).run Try.prog wx = .ok true wx := fun wx => by kernel_rfl
                    clear hp hp6 g0 g1 g2 HG HC
                    go_wp2_with (go_at_call 41; (with_reducible refine (l_awake _).mono ?_); rintro e wz ⟨rfl, hbz⟩)
                    have HF := Lib.hid (below_trans2 HB1.out (below_trans2 LI.out.old hbz))
                    clear hbz
                    go_ret
                    exact ⟨rfl, .of_below HF.out⟩

/-! The row's step. -/
set_option maxRecDepth 100000 in
theorem lifted (os : Os) (started : os.Started) (H : Type) (enc : TypeId × Value → H) :
    ReturnsInHanded {} Try.checked os 8 .any (Rows.lockerLiveSpec.pre6 enc Try.prog Try.f8 Rows.lockerLiveRow.domain false) (Rows.lockerLiveSpec.post enc Try.prog Try.f8 false true false false) := by
  refine returnsInHanded_of_change (C := Try.checked) own started (by kernel_rfl) Try.func8
    (ChangeSpec.witness6 (enc := enc) (C := Try.checked) false ⟨#[], #[.slice none 0 0, .slice none 0 0], []⟩ 8 (by kernel_rfl) (by kernel_rfl) (by kernel_rfl) (by kernel_rfl)) ?_
  intro W base args ds gs before hval0 hW hcnd _
  have hval : ∀ (j : Nat) t v, Try.f8.params[j]? = some t → args[j]? = some v → Value.okWide Try.prog W .any base t v := hval0
  have hW' := hW
  obtain ⟨p, q, hA0, hV, rfl, hfz, hnd⟩ := hW
  have hA : DataW.TrodAll enc Try.prog W 0 (fun _ => true) true Try.f8.params.toList args.toList ds p := hA0
  rw [Try.params8] at hA hval
  obtain ⟨v0, vs0, d0, ds0, p0, q0, hargs, rfl, rfl, h0, r0⟩ := trodAll_cons hA
  obtain ⟨v1, vs1, d1, ds1, p1, q1, rfl, rfl, rfl, h1, r1⟩ := trodAll_cons r0
  obtain ⟨rfl, rfl, rfl⟩ := trodAll_nil r1
  obtain rfl : args = #[v0, v1] := by cases args; simp_all
  obtain ⟨rfl, rfl⟩ := trodVars_none hV
  have hk : ∀ W', Kept W W' → Rows.lockerLiveSpec.post enc Try.prog Try.f8 false true false false W #[v0, v1] (.bool true) W' := fun W' hb =>
    post_law laidOut readable rfl Try.underlying4 rfl hW' rfl hb
  clear hA0 hval0 hA hW'
  obtain ⟨A0, n0, c0, rfl, l0, m0, s0⟩ := ArgL.open_ll (hval 0 79 v0 rfl rfl) h0
  obtain ⟨A1, n1, c1, z1, rfl, l1, m1, s1⟩ := open_slice Try.underlying47 Try.underlying3 cells3 (hval 1 47 v1 rfl rfl) h1
  refine (walk W A0 n0 c0 l0 m0 s0 A1 n1 c1 z1 l1 m1 s1).mono fun e W' ⟨he, hg⟩ => ?_
  subst he
  exact ⟨_, rfl, hk W' hg⟩

theorem over : Rows.lockerLiveRow.holds Try.pinned (OpenSpec.ofChange Rows.lockerLiveSpec) :=
  OpenClaim.holds_of_wide 8 Try.f8 rfl rfl rfl rfl rfl rfl rfl ⟨rfl, rfl, rfl, rfl, rfl⟩ rfl rfl rfl rfl rfl (by kernel_rfl) Try.func8 (by kernel_rfl)
    (of_decide_eq_true (by kernel_rfl)) (by unfold Func.isWrapper; first | (rw [if_pos (by decide +kernel)]; kernel_rfl) | (rw [if_neg (by decide +kernel)]; exact ⟨rfl, rfl⟩))
    (fun os started H enc _ => lifted os started H enc)

/-- The statement. -/
theorem proved : Rows.LockerLiveSaid :=
  over
#print axioms proved
end Go.Proofs.Ytphnadchdhblpaa.lockerLive
