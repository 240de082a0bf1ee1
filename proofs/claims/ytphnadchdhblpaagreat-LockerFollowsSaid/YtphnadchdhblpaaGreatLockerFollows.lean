/-
  Proved: threads that lock and release make the operations of the document, step by step, under every schedule. No condition.
-/
import Derived.Test.YtphnadchdhblpaaGreatRows
import Derived.WalkKit
import Derived.ProofKit
import Derived.OpenShut
import Derived.Test.YtphnadchdhblpaaGreatFrame
import Derived.Test.YtphnadchdhblpaaGreatLkF
import Derived.Deep.RegionHeld3
import Derived.Deep.RegionLaw
import Derived.Deep.Cut
import Derived.Deep.DeepCutAuto
import Derived.Deep.CutBlock
import Derived.BigQuiet
import Derived.Deep.QuietTactic
namespace Go.Proofs.YtphnadchdhblpaaGreat.lockerFollows
open Go.ChangeShapes Go.WideShapes Go.ChangeAt Go.RowKit
open LawFrame
open Go.ChangeMaps (open_string)
set_option linter.unusedVariables false

theorem own : ownKnob Tryz.prog.godebug = none := by kernel_rfl
theorem laidOut : laidOutB Tryz.prog = true := by kernel_rfl
theorem cells3 : Tryz.prog.cellsOf 3 = 1 := by kernel_rfl

open LawFrame PlainT BlkW LayS LayA LayH LayK LayP CelS CelM CelP CelV CelN CelO CelF LabD LabR LabP LabS LabX LabN CelLo WordC RsA ObjA LkP LkQ SrtA SrtB LkA LkB LkZ LkL LkY LkF
set_option maxHeartbeats 20000000
set_option maxRecDepth 400000

theorem readable : ∀ t ∈ Tryz.f3.params.toList, Tryz.prog.readableRec t = true ∧ t < Tryz.prog.types.size := by
  have h : (Tryz.f3.params.toList.all fun t => Tryz.prog.readableRec t && decide (t < Tryz.prog.types.size)) = true := by kernel_rfl
  intro t ht
  have := List.all_eq_true.1 h t ht
  simpa using this

/-! The walk. -/
/-- What is left of the walk in 4 places, and that the contract rests on it. -/
noncomputable def Pc :
    { P : Prop × Prop × Prop × Prop // PLift P.1 → PLift P.2.1 → PLift P.2.2.1 → PLift P.2.2.2 → ∀ (w : World) (A0 : Option Addr) (n0 c0 : Nat) (l0 : n0 ≤ c0) (m0 : c0 ≤ maxLen) (s0 : ArgL.LL w A0 n0) (A1 : Option Addr) (n1 c1 : Nat) (z1 : List Int) (l1 : n1 ≤ c1) (m1 : c1 ≤ maxLen) (s1 : Ints .i64 w A1 n1 z1) (A2 : Option Addr) (n2 c2 : Nat) (z2 : List Int) (l2 : n2 ≤ c2) (m2 : c2 ≤ maxLen) (s2 : Ints .i64 w A2 n2 z2), Calls Tryz.prog 3 #[.slice A0 n0 c0, .slice A1 n1 c1, .slice A2 n2 c2] w fun e w' => e = .returned (.bool true) ∧ Kept w w' } := ⟨(_, _, _, _), fun h1p h2p h3p h4p => by
  intro w A0 n0 c0 l0 m0 s0 A1 n1 c1 z1 l1 m1 s1 A2 n2 c2 z2 l2 m2 s2
  obtain ⟨W, hW⟩ := l_wants s0 c0
  have HW := Lib.hid hW
  have HZ := Lib.hid s1
  have HY := Lib.hid s2
  clear s0 s1 s2 hW l0 m0 l1 m1 l2 m2
  go_enter Tryz.func3, Tryz.ntmps3
  by_cases hbig : (80 : Int) < n1
  · go_wp2_with (go_at_call 4; (with_reducible refine (l_awake _).mono ?_); rintro e wz ⟨rfl, hbz⟩)
    have HB1 := Lib.hid hbz
    clear hbz
    go_ret
    exact ⟨rfl, .of_below HB1.out⟩
  · have hn80 : (n1 : Int) ≤ 80 := by omega
    clear hbig
    go_upto_region 4 with (first
      | (go_at_call 6; (with_reducible refine (l_config15 _).mono ?_); rintro e w1 ⟨rfl, hb1⟩)
      | (go_at_call 5; (with_reducible refine (l_start15 3 3 rfl (by decide) (by decide) _).mono ?_); rintro e w2 ⟨A, lo, hi, b, rb, rfl, hst⟩))
    have L0 : Hid (Lo w1 lo hi b rb q6 A A [] w2) := Lib.hid (Lo.begunN hst)
    have HA := Lib.hid (begun_six hst)
    have HB1 := Lib.hid hb1
    clear hst hb1
    have L1 := Lib.hid (L0.out.new TP #[.pointer (some ⟨b, 0, none⟩), .pointer (some ⟨rb, 0, none⟩)])
    obtain ⟨gp, hn⟩ : ∃ gp, w2.heap.size = gp := ⟨_, rfl⟩
    rw [hn] at L1
    first | rw [hn] | skip
    clear hn
    obtain ⟨W1, hW⟩ : ∃ W', w2.alloc (.cells #[.pointer (some ⟨b, 0, none⟩), .pointer (some ⟨rb, 0, none⟩)] TP) = W' := ⟨_, rfl⟩
    rw [hW] at L1
    first | rw [hW] | skip
    clear hW
    have L1 : Hid (Lo w1 lo hi b rb q6 A A [bx gp TP #[.pointer (some ⟨b, 0, none⟩), .pointer (some ⟨rb, 0, none⟩)]] W1) := L1
    clear L0
    have HV : Hid (VW (A 2)) := Lib.hid (vw_start HA.out.1)
    clear HA
    go_wp2_with fail
    go_loopw [9] (fun iv wr => ∃ (p : Nat) (A2 : Int → List Int), p ≤ 6 ∧ iv = .int .i64 p ∧ Hid (VW (A2 2)) ∧ Hid (Lo w1 lo hi b rb q6 A2 A2 [bx gp TP #[.pointer (some ⟨b, 0, none⟩), .pointer (some ⟨rb, 0, none⟩)]] wr)) (fun iv _ => 6 - (intOf iv).toNat)
    case atStart => exact ⟨0, A, by omega, rfl, HV, L1⟩
    case round =>
      clear L1 HV
      obtain ⟨p, A2, hp6, rfl, HV, L0⟩ := hrel
      by_cases hp : p < 6
      · have hpI : (p : Int) < 6 := by omega
        have hat := k_at c2 HY.out (below_trans2 HB1.out L0.out.old) p
        have c0 : wr.cell? ⟨gp, 0, none⟩ = some (.pointer (some ⟨b, 0, none⟩)) := L0.out.c 0 0 rfl rfl
        have c1 : wr.cell? ⟨gp, 1, none⟩ = some (.pointer (some ⟨rb, 0, none⟩)) := L0.out.c 0 1 rfl rfl
        have hse := fun v => lo_set L0.out 2 (by decide) p (by rw [HV.out.1]; exact hp) v
        go_upto_region 10 with (first
          | (go_at_call 9; (with_reducible refine hat.mono ?_); rintro e w3 ⟨v, rfl, rfl⟩)
          | (go_at_call 8; (with_reducible refine (k_place_ex v 1000 (by omega) (by omega) _).mono ?_); rintro e w4 ⟨z, z0, z1, rfl, rfl⟩)
          | (go_at_call 7; (with_reducible refine (r_free z (by omega) (by omega) _).mono ?_); rintro e w5 ⟨rfl, rfl⟩))
        have HV2 : Hid (VW (upd A2 2 p (z * 64) 2)) := Lib.hid (by rw [upd2]; exact vw_set HV.out (by omega))
        go_wp2_with (go_at_call 10; (with_reducible refine (hse _).mono ?_); rintro e w6 ⟨rfl, hL⟩; have L1 := Lib.hid hL; clear hL)
        go_roundw
        case rel => exact ⟨p + 1, _, by omega, by go_num, HV2, L1⟩
        case measure => simp [intOf]; omega
      · have hge : (6 : Int) ≤ p := by omega
        clear hp hp6
        go_upto_region 13 with (fail)
        have L1 := Lib.hid (L0.out.new TA #[.pointer none, .pointer none, .pointer none])
        obtain ⟨ga, hn⟩ : ∃ ga, wr.heap.size = ga := ⟨_, rfl⟩
        rw [hn] at L1
        first | rw [hn] | skip
        clear hn
        obtain ⟨W1, hW⟩ : ∃ W', wr.alloc (.cells #[.pointer none, .pointer none, .pointer none] TA) = W' := ⟨_, rfl⟩
        rw [hW] at L1
        first | rw [hW] | skip
        clear hW
        have L1 : Hid (Lo w1 lo hi b rb q6 A2 A2 [bx gp TP #[.pointer (some ⟨b, 0, none⟩), .pointer (some ⟨rb, 0, none⟩)], bx ga TA #[.pointer none, .pointer none, .pointer none]] W1) := L1
        clear L0
        go_upto_region 14 with (fail)
        have L2 := Lib.hid (L1.out.new TB #[.pointer none, .pointer none, .pointer none])
        obtain ⟨gb, hn⟩ : ∃ gb, W1.heap.size = gb := ⟨_, rfl⟩
        rw [hn] at L2
        first | rw [hn] | skip
        clear hn
        obtain ⟨W2, hW⟩ : ∃ W', W1.alloc (.cells #[.pointer none, .pointer none, .pointer none] TB) = W' := ⟨_, rfl⟩
        rw [hW] at L2
        first | rw [hW] | skip
        clear hW
        have L2 : Hid (Lo w1 lo hi b rb q6 A2 A2 [bx gp TP #[.pointer (some ⟨b, 0, none⟩), .pointer (some ⟨rb, 0, none⟩)], bx ga TA #[.pointer none, .pointer none, .pointer none], bx gb TB #[.pointer none, .pointer none, .pointer none]] W2) := L2
        clear L1
        go_upto_region 15 with (fail)
        have L3 := Lib.hid (L2.out.new TCc #[.pointer none, .pointer none, .pointer none])
        obtain ⟨gc, hn⟩ : ∃ gc, W2.heap.size = gc := ⟨_, rfl⟩
        rw [hn] at L3
        first | rw [hn] | skip
        clear hn
        obtain ⟨W3, hW⟩ : ∃ W', W2.alloc (.cells #[.pointer none, .pointer none, .pointer none] TCc) = W' := ⟨_, rfl⟩
        rw [hW] at L3
        first | rw [hW] | skip
        clear hW
        have L3 : Hid (Lo w1 lo hi b rb q6 A2 A2 [bx gp TP #[.pointer (some ⟨b, 0, none⟩), .pointer (some ⟨rb, 0, none⟩)], bx ga TA #[.pointer none, .pointer none, .pointer none], bx gb TB #[.pointer none, .pointer none, .pointer none], bx gc TCc #[.pointer none, .pointer none, .pointer none]] W3) := L3
        clear L2
        go_upto_region 16 with (fail)
        have L4 := Lib.hid (L3.out.new TD #[.pointer none, .pointer none, .pointer none])
        obtain ⟨gd, hn⟩ : ∃ gd, W3.heap.size = gd := ⟨_, rfl⟩
        rw [hn] at L4
        first | rw [hn] | skip
        clear hn
        obtain ⟨W4, hW⟩ : ∃ W', W3.alloc (.cells #[.pointer none, .pointer none, .pointer none] TD) = W' := ⟨_, rfl⟩
        rw [hW] at L4
        first | rw [hW] | skip
        clear hW
        have L4 : Hid (Lo w1 lo hi b rb q6 A2 A2 [bx gp TP #[.pointer (some ⟨b, 0, none⟩), .pointer (some ⟨rb, 0, none⟩)], bx ga TA #[.pointer none, .pointer none, .pointer none], bx gb TB #[.pointer none, .pointer none, .pointer none], bx gc TCc #[.pointer none, .pointer none, .pointer none], bx gd TD #[.pointer none, .pointer none, .pointer none]] W4) := L4
        clear L3
        have L9 : Hid (Lo w1 lo hi b rb q6 A2 A2 (XB gp ga gb gc gd b rb (fun _ => Ph.idle) ++ Tn (fun _ => nob) 12) W4) := Lib.hid (lo_nobs 12 L4.out)
        have HF : Hid (FI (fun _ => Ph.idle) (fun _ => nob) A2) := Lib.hid ⟨fun _ _ => ⟨rfl, rfl, rfl, rfl⟩, HV.out⟩
        clear L4 HV
        go_wp2_with fail
        go_loopw [16] (fun iv wr => ∃ (i : Nat) (ph : Nat → Ph) (o : Nat → Ob) (A3_ : Int → List Int), i ≤ n1 ∧ iv = .int .i64 i ∧ Hid (FI ph o A3_) ∧ Hid (Lo w1 lo hi b rb q6 A3_ A3_ (XB gp ga gb gc gd b rb ph ++ Tn o 12) wr)) (fun iv _ => n1 - (intOf iv).toNat)
        case atStart => exact ⟨0, fun _ => Ph.idle, fun _ => nob, A2, by omega, rfl, HF, L9⟩
        case round =>
          clear L9 HF
          obtain ⟨i, ph, o, A3_, hin, rfl, HF, L0⟩ := hrel
          by_cases hlt : i < n1
          · have hltI : (i : Int) < n1 := by omega
            obtain ⟨bp, po, x, rfl, _, c1⟩ := iat HZ.out (below_trans2 HB1.out L0.out.old) hlt
            obtain ⟨t, ht, hpl⟩ := pl3 x
            have hkp := k_place x 3 t (by decide) (by decide) hpl
            have htI : (t : Int) < 3 := by omega
            have ht0 : (0 : Int) ≤ t := by omega
            clear hpl
            go_upto_region 20 with (go_at_call 8; (with_reducible refine (hkp _).mono ?_); rintro e w5 ⟨rfl, rfl⟩)
            clear hkp c1
            obtain ⟨z, pv, hz, hpv, hcase⟩ := fi_pb (ph t)
            have c2 : wr.cell? ⟨gb, t, none⟩ = some pv := (L0.out.c 2 t rfl (a3_at ht)).trans (by rw [hpv])
            have HC := Lib.hid hcase
            have HZN := Lib.hid hz
            clear hz hpv hcase
            have heq : ∀ wx : World, (binOp BinOp.eql 44 pv (.pointer none)).run Tryz.prog wx = .ok (.bool z) wx := fun wx => by
              rcases HC.out with ⟨rfl, rfl⟩ | ⟨rfl, g, rfl⟩ <;> kernel_rfl
            have hgu : ∀ (o1 o2 : Operand) (wx : World), (eqGuard BinOp.eql 44 o1 o2 pv (.pointer none)).run Tryz.prog wx = .ok () wx := fun o1 o2 wx => by
              rcases HC.out with ⟨rfl, rfl⟩ | ⟨rfl, g, rfl⟩ <;> rfl
            go_upto_if 60 with (fail)
            go_cut [] (fun wc => ∃ (ph : Nat → Ph) (o : Nat → Ob), Hid (isI (ph t) = false) ∧ Hid (FI ph o A3_) ∧ Hid (Lo w1 lo hi b rb q6 A3_ A3_ (XB gp ga gb gc gd b rb ph ++ Tn o 12) wc))
            case first =>
              rename_i A2z1 c2z1 Q'z1 hz1 W1z1 L1z1 Kz1 wrz1 u6z1 Kz2 hz2 Kz3 az1 Q'z2 az2 leftz1 Q'z3 Kz4 az3 Kz5 az4 Jz1 K'z1 az5 az6
              revert w A0 n0 c0 n1 c1 z1 A2z1 n2 c2z1 z2 W HW HY hn80 Q'z1 hz1 w1 w2 A lo hi b rb HB1 gp W1z1 L1z1 Kz1 wrz1 u6z1 u10 u11 u29 u30 u31 u32 u33 u34 u35 u36 u37 u38 u39 u40 u41 u42 u43 u44 u45 p A2 hge Kz2 hz2 ga W1 L1 gb W2 L2 gc W3 L3 Kz3 az1 gd W4 L4 wr u6 u17 u46 u47 u48 u49 u50 u51 u52 u53 u54 u55 u56 u57 u58 u59 u60 u61 u62 u63 u64 u65 u66 u67 u68 u69 u70 u71 u72 u73 u74 u75 u76 u77 u78 u79 u80 u81 u82 u83 u84 u85 u86 u87 u88 u89 u90 u91 u92 u93 u94 u95 u96 u97 u98 u99 u100 u101 u102 u103 u104 u105 u106 u107 u108 u109 u110 u111 u112 u113 u114 u115 u116 u117 u118 u119 u120 u121 u122 u123 u124 u125 u126 u127 u128 u129 u130 u131 u132 u133 u134 u135 u136 u137 u138 u139 u140 u141 u142 u143 u144 u145 u146 u147 u148 u149 u150 u151 u152 u153 u154 u155 u156 u157 u158 u159 u160 u161 u162 u163 u164 u165 u166 u167 u168 u169 u170 u171 u172 u173 u174 u175 u176 u177 u178 u179 u180 u181 u182 u183 u184 u185 u186 u187 u188 u189 u190 u191 u192 u193 u194 u195 u196 u197 u198 u199 u200 u201 u202 u203 i ph o A3_ hin HF L0 hlt hltI bp po x HZ Q'z2 az2 leftz1 t ht htI ht0 Q'z3 Kz4 az3 Kz5 az4 z pv c2 HC HZN heq hgu Jz1 K'z1 az5 az6
              exact h1p.down
            case rest =>
              clear HF L0 c2 heq hgu HC HZN
              obtain ⟨ph, o, HN, HF, L0⟩ := hcut
              obtain ⟨g1, g2, s, vl, vo, kq, vs, vq, ha, hb_, HW1, e0, e3, hlk, hrl⟩ := fi_act HF.out ht HN.out
              have HW1 := Lib.hid HW1
              have hlk := Lib.hid hlk
              have hrl := Lib.hid hrl
              have E0 := Lib.hid e0
              have E3 := Lib.hid e3
              have HA := Lib.hid ha
              have HB := Lib.hid hb_
              clear ha hb_ e0 e3
              have hfew := HW1.out.ok.few
              have hsl := HW1.out.ok.len
              have c2 : wc.cell? ⟨ga, t, none⟩ = some (ptrV g1) := (L0.out.c 1 t rfl (a3_at ht)).trans (by rw [HA.out])
              go_upto_region 24 with (fail)
              clear c2
              obtain ⟨D, hD⟩ : ∃ D, decide (s.ys.length = s.S.length) = D := ⟨_, rfl⟩
              have HD := Lib.hid hD
              clear hD
              have hkk : ∀ (W : World), Lo w1 lo hi b rb q6 A3_ A3_ (XB gp ga gb gc gd b rb ph ++ Tn o 12) W → (fun W : World => W.cell? ⟨ga, t, none⟩ = some (ptrV g1) ∧ W.cell? ⟨gb, t, none⟩ = some (ptrV g2) ∧ W.cell? ⟨g2, 2, none⟩ = some vq) W := fun W h => ⟨(h.c 1 t rfl (a3_at ht)).trans (by rw [HA.out]), (h.c 2 t rfl (a3_at ht)).trans (by rw [HB.out]), (tq_rows h (by omega) E3.out).1.cell 2⟩
              have hs0 : (fun W : World => W.cell? ⟨ga, t, none⟩ = some (ptrV g1) ∧ W.cell? ⟨gb, t, none⟩ = some (ptrV g2) ∧ W.cell? ⟨g2, 2, none⟩ = some vq) wc.drew := hkk _ L0.out.drew
              have hdn1 := t_done L0.out.drew (j := t) (by omega) E0.out HD
              have hdn2 := tq_done L0.out.drew (j := 3 + t) (by omega) E3.out HD
              have hold := fun n => t_old (L0.out.drewN n) (j := t) (by omega) E0.out HW1.out.ok
              have hL5 := fun (n : Nat) (w6 : World) (hb : Below (wc.drewN n).heap.size (wc.drewN n) w6) => (L0.out.drewN n).below hb
              have hwd : ∀ (n : Nat) (v : Value) (w6 : World), Below (wc.drewN n).heap.size (wc.drewN n) w6 → RdR .u64 w6 v s.ys → Calls _ _ _ _ _ := fun n v w6 hb hr => t_words hr (tq_rows (hL5 n w6 hb) (j := 3 + t) (by omega) E3.out).2.2 (by omega)
              have hDD : (D != D) = false := by cases D <;> rfl
              go_region_held3 (fun W : World => W.cell? ⟨ga, t, none⟩ = some (ptrV g1) ∧ W.cell? ⟨gb, t, none⟩ = some (ptrV g2) ∧ W.cell? ⟨g2, 2, none⟩ = some vq) (first | (with_reducible exact hs0) | (with_reducible assumption)) (first
                  | (go_at_call 14; (with_reducible refine hdn1.mono ?_); rintro e w3 ⟨rfl, rfl⟩)
                  | (go_at_call 15; (with_reducible refine hdn2.mono ?_); rintro e w4 ⟨rfl, n4, rfl⟩; have hold := hold (1 + n4); have hk2 := hkk _ (L0.out.drewN (1 + n4)))
                  | (go_at_call 17; (with_reducible refine hold.mono ?_); rintro e w5 ⟨v5, rfl, hr5, hb5⟩; have hwd := hwd _ _ _ hb5 hr5; have hL5 := hL5 _ _ hb5; have hk3 := hkk _ hL5)
                  | (go_at_call 16; (with_reducible refine hwd.mono ?_); rintro e w6 ⟨rfl, n6, rfl⟩; have hL6 := hL5.drewN n6; have hk4 := hkk _ hL6))
              have L1 := Lib.hid hL6
              clear hs0 hdn1 hdn2 hold hL5 hL6 hwd hDD hkk hk2 hk3 hk4 hr5 hb5 L0
              obtain ⟨W6, hW6⟩ : ∃ W6, w5.drewN n6 = W6 := ⟨_, rfl⟩
              rw [hW6] at L1
              first | rw [hW6] | skip
              clear hW6
              have hdn3 := tq_done L1.out (j := 3 + t) (by omega) E3.out HD
              have c3 : W6.cell? ⟨gb, t, none⟩ = some (ptrV g2) := (L1.out.c 2 t rfl (a3_at ht)).trans (by rw [HB.out])
              cases D with
              | false =>
                rename_i A2z1 Q'z1 hz1 W1z1 L1z1 Kz1 wrz1 u6z1 Kz2 hz2 L1z2 Kz3 az1 u46z1 u47z1 u48z1 u49z1 u50z1 u51z1 u52z1 u53z1 u54z1 u55z1 u56z1 u57z1 u58z1 u59z1 u60z1 u61z1 u62z1 u63z1 u64z1 u65z1 u66z1 u67z1 u68z1 u69z1 u70z1 u71z1 u72z1 u73z1 u74z1 u75z1 u76z1 u77z1 u78z1 u79z1 u80z1 u81z1 u82z1 u83z1 u84z1 u85z1 u86z1 u87z1 u88z1 u89z1 u90z1 u91z1 u92z1 u93z1 u94z1 u95z1 u96z1 u97z1 u98z1 u99z1 u100z1 u101z1 u102z1 u103z1 u104z1 u105z1 u106z1 u107z1 u108z1 u109z1 u110z1 u111z1 u112z1 u113z1 u114z1 u115z1 u116z1 u117z1 u118z1 u119z1 u120z1 u121z1 u122z1 u123z1 u124z1 u125z1 u126z1 u127z1 u128z1 u129z1 u130z1 u131z1 u132z1 u133z1 u134z1 u135z1 u136z1 u137z1 u138z1 u139z1 u140z1 u141z1 u142z1 u143z1 u144z1 u145z1 u146z1 u147z1 u148z1 u149z1 u150z1 u151z1 u152z1 u153z1 u154z1 u155z1 u156z1 u157z1 u158z1 u159z1 u160z1 u161z1 u162z1 u163z1 u164z1 u165z1 u166z1 u167z1 u168z1 u169z1 u170z1 u171z1 u172z1 u173z1 u174z1 u175z1 u176z1 u177z1 u178z1 u179z1 u180z1 u181z1 u182z1 u183z1 u184z1 u185z1 u186z1 u187z1 u188z1 u189z1 u190z1 u191z1 u192z1 u193z1 u194z1 u195z1 u196z1 u197z1 u198z1 u199z1 u200z1 u201z1 u202z1 u203z1 phz1 oz1 Q'z2 az2 leftz1 Q'z3 Kz4 az3 HW1z1 hlkz1 hrlz1 Kz5 az4 Kz6 az5 hHeldz1
                revert w A0 n0 c0 n1 c1 z1 A2z1 n2 c2 z2 W HW HY hn80 Q'z1 hz1 w1 w2 A lo hi b rb HB1 gp W1z1 L1z1 Kz1 wrz1 u6z1 u10 u11 u29 u30 u31 u32 u33 u34 u35 u36 u37 u38 u39 u40 u41 u42 u43 u44 u45 p A2 hge Kz2 hz2 ga W1 L1z2 gb W2 L2 gc W3 L3 Kz3 az1 gd W4 L4 wr u6 u17 u46z1 u47z1 u48z1 u49z1 u50z1 u51z1 u52z1 u53z1 u54z1 u55z1 u56z1 u57z1 u58z1 u59z1 u60z1 u61z1 u62z1 u63z1 u64z1 u65z1 u66z1 u67z1 u68z1 u69z1 u70z1 u71z1 u72z1 u73z1 u74z1 u75z1 u76z1 u77z1 u78z1 u79z1 u80z1 u81z1 u82z1 u83z1 u84z1 u85z1 u86z1 u87z1 u88z1 u89z1 u90z1 u91z1 u92z1 u93z1 u94z1 u95z1 u96z1 u97z1 u98z1 u99z1 u100z1 u101z1 u102z1 u103z1 u104z1 u105z1 u106z1 u107z1 u108z1 u109z1 u110z1 u111z1 u112z1 u113z1 u114z1 u115z1 u116z1 u117z1 u118z1 u119z1 u120z1 u121z1 u122z1 u123z1 u124z1 u125z1 u126z1 u127z1 u128z1 u129z1 u130z1 u131z1 u132z1 u133z1 u134z1 u135z1 u136z1 u137z1 u138z1 u139z1 u140z1 u141z1 u142z1 u143z1 u144z1 u145z1 u146z1 u147z1 u148z1 u149z1 u150z1 u151z1 u152z1 u153z1 u154z1 u155z1 u156z1 u157z1 u158z1 u159z1 u160z1 u161z1 u162z1 u163z1 u164z1 u165z1 u166z1 u167z1 u168z1 u169z1 u170z1 u171z1 u172z1 u173z1 u174z1 u175z1 u176z1 u177z1 u178z1 u179z1 u180z1 u181z1 u182z1 u183z1 u184z1 u185z1 u186z1 u187z1 u188z1 u189z1 u190z1 u191z1 u192z1 u193z1 u194z1 u195z1 u196z1 u197z1 u198z1 u199z1 u200z1 u201z1 u202z1 u203z1 i phz1 oz1 A3_ hin hlt hltI bp po x HZ Q'z2 az2 leftz1 t ht htI ht0 Q'z3 Kz4 az3 z pv wc u46 u47 u48 u49 u50 u51 u52 u53 u54 u55 u56 u57 u58 u59 u60 u61 u62 u63 u64 u65 u66 u67 u68 u69 u70 u71 u72 u73 u74 u75 u76 u77 u78 u79 u80 u81 u82 u83 u84 u85 u86 u87 u88 u89 u90 u91 u92 u93 u94 u95 u96 u97 u98 u99 u100 u101 u102 u103 u104 u105 u106 u107 u108 u109 u110 u111 u112 u113 u114 u115 u116 u117 u118 u119 u120 u121 u122 u123 u124 u125 u126 u127 u128 u129 u130 u131 u132 u133 u134 u135 u136 u137 u138 u139 u140 u141 u142 u143 u144 u145 u146 u147 u148 u149 u150 u151 u152 u153 u154 u155 u156 u157 u158 u159 u160 u161 u162 u163 u164 u165 u166 u167 u168 u169 u170 u171 u172 u173 u174 u175 u176 u177 u178 u179 u180 u181 u182 u183 u184 u185 u186 u187 u188 u189 u190 u191 u192 u193 u194 u195 u196 u197 u198 u199 u200 u201 u202 u203 ph o HN HF g1 g2 s vl vo kq vs vq HW1z1 hlkz1 hrlz1 HW1 hlk hrl E0 E3 HA HB hfew hsl Kz5 az4 Kz6 az5 hold hL5 hwd n4 w5 v5 n6 hHeldz1 W6 L1 c3 HD hdn3
                exact h2p.down
              | true =>
                have hl : s.ys.length = s.S.length := of_decide_eq_true HD.out
                have HL := Lib.hid hl
                clear hl
                go_upto_region 29 with (go_at_call 15; (with_reducible refine hdn3.mono ?_); rintro e w7 ⟨rfl, n7, rfl⟩; have L2 := Lib.hid (L1.out.drewN n7))
                clear hdn3 c3 L1
                obtain ⟨W7, hW7⟩ : ∃ W7, W6.drewN n7 = W7 := ⟨_, rfl⟩
                rw [hW7] at L2
                first | rw [hW7] | skip
                clear hW7
                obtain ⟨z, pv, hz, hpv, hcase⟩ := fi_pd HN.out
                have c4 : W7.cell? ⟨gd, t, none⟩ = some pv := (L2.out.c 4 t rfl (a3_at ht)).trans (by rw [hpv])
                have HC := Lib.hid hcase
                have HZN := Lib.hid hz
                clear hz hpv hcase
                have heq : ∀ wx : World, (binOp BinOp.eql 48 pv (.pointer none)).run Tryz.prog wx = .ok (.bool z) wx := fun wx => by
                  rcases HC.out with ⟨rfl, rfl⟩ | ⟨rfl, g, rfl⟩ <;> kernel_rfl
                have hgu : ∀ (o1 o2 : Operand) (wx : World), (eqGuard BinOp.eql 48 o1 o2 pv (.pointer none)).run Tryz.prog wx = .ok () wx := fun o1 o2 wx => by
                  rcases HC.out with ⟨rfl, rfl⟩ | ⟨rfl, g, rfl⟩ <;> rfl
                go_upto_if 128 with (fail)
                go_cut [] (fun wc => ∃ (ph : Nat → Ph) (o : Nat → Ob), Hid (isL (ph t) = false ∧ isI (ph t) = false) ∧ Hid (FI ph o A3_) ∧ Hid (Lo w1 lo hi b rb q6 A3_ A3_ (XB gp ga gb gc gd b rb ph ++ Tn o 12) wc))
                case first =>
                  rename_i A2z1 Q'z1 hz1 W1z1 L1z1 Kz1 wrz1 u6z1 Kz2 hz2 L2z1 Kz3 az1 u46z1 u47z1 u48z1 u49z1 u50z1 u51z1 u52z1 u53z1 u54z1 u55z1 u56z1 u57z1 u58z1 u59z1 u60z1 u61z1 u62z1 u63z1 u64z1 u65z1 u66z1 u67z1 u68z1 u69z1 u70z1 u71z1 u72z1 u73z1 u74z1 u75z1 u76z1 u77z1 u78z1 u79z1 u80z1 u81z1 u82z1 u83z1 u84z1 u85z1 u86z1 u87z1 u88z1 u89z1 u90z1 u91z1 u92z1 u93z1 u94z1 u95z1 u96z1 u97z1 u98z1 u99z1 u100z1 u101z1 u102z1 u103z1 u104z1 u105z1 u106z1 u107z1 u108z1 u109z1 u110z1 u111z1 u112z1 u113z1 u114z1 u115z1 u116z1 u117z1 u118z1 u119z1 u120z1 u121z1 u122z1 u123z1 u124z1 u125z1 u126z1 u127z1 u128z1 u129z1 u130z1 u131z1 u132z1 u133z1 u134z1 u135z1 u136z1 u137z1 u138z1 u139z1 u140z1 u141z1 u142z1 u143z1 u144z1 u145z1 u146z1 u147z1 u148z1 u149z1 u150z1 u151z1 u152z1 u153z1 u154z1 u155z1 u156z1 u157z1 u158z1 u159z1 u160z1 u161z1 u162z1 u163z1 u164z1 u165z1 u166z1 u167z1 u168z1 u169z1 u170z1 u171z1 u172z1 u173z1 u174z1 u175z1 u176z1 u177z1 u178z1 u179z1 u180z1 u181z1 u182z1 u183z1 u184z1 u185z1 u186z1 u187z1 u188z1 u189z1 u190z1 u191z1 u192z1 u193z1 u194z1 u195z1 u196z1 u197z1 u198z1 u199z1 u200z1 u201z1 u202z1 u203z1 phz1 oz1 Q'z2 az2 leftz1 Q'z3 Kz4 az3 zz1 pvz1 HW1z1 hlkz1 hrlz1 hHeldz1 Kz5 az4 Jz1 K'z1 az5 az6
                  revert w A0 n0 c0 n1 c1 z1 A2z1 n2 c2 z2 W HW HY hn80 Q'z1 hz1 w1 w2 A lo hi b rb HB1 gp W1z1 L1z1 Kz1 wrz1 u6z1 u10 u11 u29 u30 u31 u32 u33 u34 u35 u36 u37 u38 u39 u40 u41 u42 u43 u44 u45 p A2 hge Kz2 hz2 ga W1 L1 gb W2 L2z1 gc W3 L3 Kz3 az1 gd W4 L4 wr u6 u17 u46z1 u47z1 u48z1 u49z1 u50z1 u51z1 u52z1 u53z1 u54z1 u55z1 u56z1 u57z1 u58z1 u59z1 u60z1 u61z1 u62z1 u63z1 u64z1 u65z1 u66z1 u67z1 u68z1 u69z1 u70z1 u71z1 u72z1 u73z1 u74z1 u75z1 u76z1 u77z1 u78z1 u79z1 u80z1 u81z1 u82z1 u83z1 u84z1 u85z1 u86z1 u87z1 u88z1 u89z1 u90z1 u91z1 u92z1 u93z1 u94z1 u95z1 u96z1 u97z1 u98z1 u99z1 u100z1 u101z1 u102z1 u103z1 u104z1 u105z1 u106z1 u107z1 u108z1 u109z1 u110z1 u111z1 u112z1 u113z1 u114z1 u115z1 u116z1 u117z1 u118z1 u119z1 u120z1 u121z1 u122z1 u123z1 u124z1 u125z1 u126z1 u127z1 u128z1 u129z1 u130z1 u131z1 u132z1 u133z1 u134z1 u135z1 u136z1 u137z1 u138z1 u139z1 u140z1 u141z1 u142z1 u143z1 u144z1 u145z1 u146z1 u147z1 u148z1 u149z1 u150z1 u151z1 u152z1 u153z1 u154z1 u155z1 u156z1 u157z1 u158z1 u159z1 u160z1 u161z1 u162z1 u163z1 u164z1 u165z1 u166z1 u167z1 u168z1 u169z1 u170z1 u171z1 u172z1 u173z1 u174z1 u175z1 u176z1 u177z1 u178z1 u179z1 u180z1 u181z1 u182z1 u183z1 u184z1 u185z1 u186z1 u187z1 u188z1 u189z1 u190z1 u191z1 u192z1 u193z1 u194z1 u195z1 u196z1 u197z1 u198z1 u199z1 u200z1 u201z1 u202z1 u203z1 i phz1 oz1 A3_ hin hlt hltI bp po x HZ Q'z2 az2 leftz1 t ht htI ht0 Q'z3 Kz4 az3 zz1 pvz1 wc u46 u47 u48 u49 u50 u51 u52 u53 u54 u55 u56 u57 u58 u59 u60 u61 u62 u63 u64 u65 u66 u67 u68 u69 u70 u71 u72 u73 u74 u75 u76 u77 u78 u79 u80 u81 u82 u83 u84 u85 u86 u87 u88 u89 u90 u91 u92 u93 u94 u95 u96 u97 u98 u99 u100 u101 u102 u103 u104 u105 u106 u107 u108 u109 u110 u111 u112 u113 u114 u115 u116 u117 u118 u119 u120 u121 u122 u123 u124 u125 u126 u127 u128 u129 u130 u131 u132 u133 u134 u135 u136 u137 u138 u139 u140 u141 u142 u143 u144 u145 u146 u147 u148 u149 u150 u151 u152 u153 u154 u155 u156 u157 u158 u159 u160 u161 u162 u163 u164 u165 u166 u167 u168 u169 u170 u171 u172 u173 u174 u175 u176 u177 u178 u179 u180 u181 u182 u183 u184 u185 u186 u187 u188 u189 u190 u191 u192 u193 u194 u195 u196 u197 u198 u199 u200 u201 u202 u203 ph o HN HF g1 g2 s vl vo kq vs vq HW1z1 hlkz1 hrlz1 HW1 hlk hrl E0 E3 HA HB hfew hsl hold hL5 hwd n4 w5 v5 n6 hHeldz1 W6 HD HL n7 Kz5 az4 W7 L2 z pv c4 HC HZN heq hgu Jz1 K'z1 az5 az6
                  exact h3p.down
                case rest =>
                  rename_i A2z1 Q'z1 hz1 W1z1 L1z1 Kz1 wrz1 u6z1 Kz2 hz2 L2z1 Kz3 az1 u46z1 u47z1 u48z1 u49z1 u50z1 u51z1 u52z1 u53z1 u54z1 u55z1 u56z1 u57z1 u58z1 u59z1 u60z1 u61z1 u62z1 u63z1 u64z1 u65z1 u66z1 u67z1 u68z1 u69z1 u70z1 u71z1 u72z1 u73z1 u74z1 u75z1 u76z1 u77z1 u78z1 u79z1 u80z1 u81z1 u82z1 u83z1 u84z1 u85z1 u86z1 u87z1 u88z1 u89z1 u90z1 u91z1 u92z1 u93z1 u94z1 u95z1 u96z1 u97z1 u98z1 u99z1 u100z1 u101z1 u102z1 u103z1 u104z1 u105z1 u106z1 u107z1 u108z1 u109z1 u110z1 u111z1 u112z1 u113z1 u114z1 u115z1 u116z1 u117z1 u118z1 u119z1 u120z1 u121z1 u122z1 u123z1 u124z1 u125z1 u126z1 u127z1 u128z1 u129z1 u130z1 u131z1 u132z1 u133z1 u134z1 u135z1 u136z1 u137z1 u138z1 u139z1 u140z1 u141z1 u142z1 u143z1 u144z1 u145z1 u146z1 u147z1 u148z1 u149z1 u150z1 u151z1 u152z1 u153z1 u154z1 u155z1 u156z1 u157z1 u158z1 u159z1 u160z1 u161z1 u162z1 u163z1 u164z1 u165z1 u166z1 u167z1 u168z1 u169z1 u170z1 u171z1 u172z1 u173z1 u174z1 u175z1 u176z1 u177z1 u178z1 u179z1 u180z1 u181z1 u182z1 u183z1 u184z1 u185z1 u186z1 u187z1 u188z1 u189z1 u190z1 u191z1 u192z1 u193z1 u194z1 u195z1 u196z1 u197z1 u198z1 u199z1 u200z1 u201z1 u202z1 u203z1 phz1 oz1 Q'z2 az2 leftz1 Q'z3 Kz4 az3 zz1 pvz1 wcz1 u46z2 u47z2 u48z2 u49z2 u50z2 u51z2 u52z2 u53z2 u54z2 u55z2 u56z2 u57z2 u58z2 u59z2 u60z2 u61z2 u62z2 u63z2 u64z2 u65z2 u66z2 u67z2 u68z2 u69z2 u70z2 u71z2 u72z2 u73z2 u74z2 u75z2 u76z2 u77z2 u78z2 u79z2 u80z2 u81z2 u82z2 u83z2 u84z2 u85z2 u86z2 u87z2 u88z2 u89z2 u90z2 u91z2 u92z2 u93z2 u94z2 u95z2 u96z2 u97z2 u98z2 u99z2 u100z2 u101z2 u102z2 u103z2 u104z2 u105z2 u106z2 u107z2 u108z2 u109z2 u110z2 u111z2 u112z2 u113z2 u114z2 u115z2 u116z2 u117z2 u118z2 u119z2 u120z2 u121z2 u122z2 u123z2 u124z2 u125z2 u126z2 u127z2 u128z2 u129z2 u130z2 u131z2 u132z2 u133z2 u134z2 u135z2 u136z2 u137z2 u138z2 u139z2 u140z2 u141z2 u142z2 u143z2 u144z2 u145z2 u146z2 u147z2 u148z2 u149z2 u150z2 u151z2 u152z2 u153z2 u154z2 u155z2 u156z2 u157z2 u158z2 u159z2 u160z2 u161z2 u162z2 u163z2 u164z2 u165z2 u166z2 u167z2 u168z2 u169z2 u170z2 u171z2 u172z2 u173z2 u174z2 u175z2 u176z2 u177z2 u178z2 u179z2 u180z2 u181z2 u182z2 u183z2 u184z2 u185z2 u186z2 u187z2 u188z2 u189z2 u190z2 u191z2 u192z2 u193z2 u194z2 u195z2 u196z2 u197z2 u198z2 u199z2 u200z2 u201z2 u202z2 u203z2 HW1z1 hlkz1 hrlz1 hHeldz1 Kz5 az4
                  revert w A0 n0 c0 n1 c1 z1 A2z1 n2 c2 z2 W HW HY hn80 Q'z1 hz1 w1 w2 A lo hi b rb HB1 gp W1z1 L1z1 Kz1 wrz1 u6z1 u10 u11 u29 u30 u31 u32 u33 u34 u35 u36 u37 u38 u39 u40 u41 u42 u43 u44 u45 p A2 hge Kz2 hz2 ga W1 L1 gb W2 L2z1 gc W3 L3 Kz3 az1 gd W4 L4 wr u6 u17 u46z1 u47z1 u48z1 u49z1 u50z1 u51z1 u52z1 u53z1 u54z1 u55z1 u56z1 u57z1 u58z1 u59z1 u60z1 u61z1 u62z1 u63z1 u64z1 u65z1 u66z1 u67z1 u68z1 u69z1 u70z1 u71z1 u72z1 u73z1 u74z1 u75z1 u76z1 u77z1 u78z1 u79z1 u80z1 u81z1 u82z1 u83z1 u84z1 u85z1 u86z1 u87z1 u88z1 u89z1 u90z1 u91z1 u92z1 u93z1 u94z1 u95z1 u96z1 u97z1 u98z1 u99z1 u100z1 u101z1 u102z1 u103z1 u104z1 u105z1 u106z1 u107z1 u108z1 u109z1 u110z1 u111z1 u112z1 u113z1 u114z1 u115z1 u116z1 u117z1 u118z1 u119z1 u120z1 u121z1 u122z1 u123z1 u124z1 u125z1 u126z1 u127z1 u128z1 u129z1 u130z1 u131z1 u132z1 u133z1 u134z1 u135z1 u136z1 u137z1 u138z1 u139z1 u140z1 u141z1 u142z1 u143z1 u144z1 u145z1 u146z1 u147z1 u148z1 u149z1 u150z1 u151z1 u152z1 u153z1 u154z1 u155z1 u156z1 u157z1 u158z1 u159z1 u160z1 u161z1 u162z1 u163z1 u164z1 u165z1 u166z1 u167z1 u168z1 u169z1 u170z1 u171z1 u172z1 u173z1 u174z1 u175z1 u176z1 u177z1 u178z1 u179z1 u180z1 u181z1 u182z1 u183z1 u184z1 u185z1 u186z1 u187z1 u188z1 u189z1 u190z1 u191z1 u192z1 u193z1 u194z1 u195z1 u196z1 u197z1 u198z1 u199z1 u200z1 u201z1 u202z1 u203z1 i phz1 oz1 A3_ hin hlt hltI bp po x HZ Q'z2 az2 leftz1 t ht htI ht0 Q'z3 Kz4 az3 zz1 pvz1 wcz1 u46z2 u47z2 u48z2 u49z2 u50z2 u51z2 u52z2 u53z2 u54z2 u55z2 u56z2 u57z2 u58z2 u59z2 u60z2 u61z2 u62z2 u63z2 u64z2 u65z2 u66z2 u67z2 u68z2 u69z2 u70z2 u71z2 u72z2 u73z2 u74z2 u75z2 u76z2 u77z2 u78z2 u79z2 u80z2 u81z2 u82z2 u83z2 u84z2 u85z2 u86z2 u87z2 u88z2 u89z2 u90z2 u91z2 u92z2 u93z2 u94z2 u95z2 u96z2 u97z2 u98z2 u99z2 u100z2 u101z2 u102z2 u103z2 u104z2 u105z2 u106z2 u107z2 u108z2 u109z2 u110z2 u111z2 u112z2 u113z2 u114z2 u115z2 u116z2 u117z2 u118z2 u119z2 u120z2 u121z2 u122z2 u123z2 u124z2 u125z2 u126z2 u127z2 u128z2 u129z2 u130z2 u131z2 u132z2 u133z2 u134z2 u135z2 u136z2 u137z2 u138z2 u139z2 u140z2 u141z2 u142z2 u143z2 u144z2 u145z2 u146z2 u147z2 u148z2 u149z2 u150z2 u151z2 u152z2 u153z2 u154z2 u155z2 u156z2 u157z2 u158z2 u159z2 u160z2 u161z2 u162z2 u163z2 u164z2 u165z2 u166z2 u167z2 u168z2 u169z2 u170z2 u171z2 u172z2 u173z2 u174z2 u175z2 u176z2 u177z2 u178z2 u179z2 u180z2 u181z2 u182z2 u183z2 u184z2 u185z2 u186z2 u187z2 u188z2 u189z2 u190z2 u191z2 u192z2 u193z2 u194z2 u195z2 u196z2 u197z2 u198z2 u199z2 u200z2 u201z2 u202z2 u203z2 ph o HN HF g1 g2 s vl vo kq vs vq HW1z1 hlkz1 hrlz1 HW1 hlk hrl E0 E3 HA HB hfew hsl hold hL5 hwd n4 w5 v5 n6 hHeldz1 W6 HD HL n7 Kz5 az4 W7 L2 z pv c4 HC HZN heq hgu wc u46 u47 u48 u49 u50 u51 u52 u53 u54 u55 u56 u57 u58 u59 u60 u61 u62 u63 u64 u65 u66 u67 u68 u69 u70 u71 u72 u73 u74 u75 u76 u77 u78 u79 u80 u81 u82 u83 u84 u85 u86 u87 u88 u89 u90 u91 u92 u93 u94 u95 u96 u97 u98 u99 u100 u101 u102 u103 u104 u105 u106 u107 u108 u109 u110 u111 u112 u113 u114 u115 u116 u117 u118 u119 u120 u121 u122 u123 u124 u125 u126 u127 u128 u129 u130 u131 u132 u133 u134 u135 u136 u137 u138 u139 u140 u141 u142 u143 u144 u145 u146 u147 u148 u149 u150 u151 u152 u153 u154 u155 u156 u157 u158 u159 u160 u161 u162 u163 u164 u165 u166 u167 u168 u169 u170 u171 u172 u173 u174 u175 u176 u177 u178 u179 u180 u181 u182 u183 u184 u185 u186 u187 u188 u189 u190 u191 u192 u193 u194 u195 u196 u197 u198 u199 u200 u201 u202 u203 hcut
                  exact h4p.down
          · obtain rfl : i = n1 := by omega
            clear hlt hin
            go_wp2_with (go_at_call 4; (with_reducible refine (l_awake _).mono ?_); rintro e wz ⟨rfl, hbz⟩)
            have HG := Lib.hid (below_trans2 HB1.out (below_trans2 L0.out.old hbz))
            clear hbz
            go_ret
            exact ⟨rfl, .of_below HG.out⟩⟩
theorem piece_1 : Pc.1.1 := by
  intro w A0 n0 c0 n1 c1 z1 A2z1 n2 c2z1 z2 W HW HY hn80 Q'z1 hz1 w1 w2 A lo hi b rb HB1 gp W1z1 L1z1 Kz1 wrz1 u6z1 u10 u11 u29 u30 u31 u32 u33 u34 u35 u36 u37 u38 u39 u40 u41 u42 u43 u44 u45 p A2 hge Kz2 hz2 ga W1 L1 gb W2 L2 gc W3 L3 Kz3 az1 gd W4 L4 wr u6 u17 u46 u47 u48 u49 u50 u51 u52 u53 u54 u55 u56 u57 u58 u59 u60 u61 u62 u63 u64 u65 u66 u67 u68 u69 u70 u71 u72 u73 u74 u75 u76 u77 u78 u79 u80 u81 u82 u83 u84 u85 u86 u87 u88 u89 u90 u91 u92 u93 u94 u95 u96 u97 u98 u99 u100 u101 u102 u103 u104 u105 u106 u107 u108 u109 u110 u111 u112 u113 u114 u115 u116 u117 u118 u119 u120 u121 u122 u123 u124 u125 u126 u127 u128 u129 u130 u131 u132 u133 u134 u135 u136 u137 u138 u139 u140 u141 u142 u143 u144 u145 u146 u147 u148 u149 u150 u151 u152 u153 u154 u155 u156 u157 u158 u159 u160 u161 u162 u163 u164 u165 u166 u167 u168 u169 u170 u171 u172 u173 u174 u175 u176 u177 u178 u179 u180 u181 u182 u183 u184 u185 u186 u187 u188 u189 u190 u191 u192 u193 u194 u195 u196 u197 u198 u199 u200 u201 u202 u203 i ph o A3_ hin HF L0 hlt hltI bp po x HZ Q'z2 az2 leftz1 t ht htI ht0 Q'z3 Kz4 az3 Kz5 az4 z pv c2 HC HZN heq hgu Jz1 K'z1 az5 az6
  cases z with
  | false =>
    go_wp2_with fail
    all_goals go_meet
    all_goals exact ⟨ph, o, HZN, HF, L0⟩
  | true =>
    have hidle := isI_eq HZN.out
    obtain ⟨hn0, hn3⟩ := fi_nobs HF.out ht hidle
    have hB1 : Below w.heap.size w wr.drew := below_drewN (below_trans2 HB1.out L0.out.old) 1
    obtain ⟨hw8, hw5, hwa⟩ := HW.out t ht
    have hwa1 := hwa wr.drew hB1
    have hwa2 : ∀ (w4 : World) (ex : List Ob), Lo w1 lo hi b rb q6 A3_ A3_ ex w4 → Calls _ _ _ w4 _ := fun w4 ex h => hwa w4 (below_trans2 HB1.out h.old)
    have hnl1 : ∀ w2 p c, Below wr.drew.heap.size wr.drew w2 → RdR .i64 w2 (.slice p (W t).length c) (W t) → Calls _ _ _ _ _ := fun w2 p c hb hr => x_new (L0.out.drew.below hb) t (.slice p (W t).length c) (W t) hr (by omega)
    have hnl2 : ∀ w4 g1 v1, Lo w1 lo hi b rb q6 A3_ A3_ ((XB gp ga gb gc gd b rb ph ++ Tn o 12) ++ [lkM g1 t v1 (.slice none 0 0) ⟨srt (W t), [], false, 0⟩]) w4 → ∀ w5 p c, Below w4.heap.size w4 w5 → RdR .i64 w5 (.slice p (W t).length c) (W t) → Calls _ _ _ _ _ := fun w4 g1 v1 h w5 p c hb hr => qx_new ((ex_put (by omega) hn0 h).below hb) t p (W t).length c (W t) hr.slice rfl (by omega)
    have hpost : ∀ w6 g1 v1 g2 v2, Lo w1 lo hi b rb q6 A3_ A3_ ((XB gp ga gb gc gd b rb ph ++ Tn (upf o t (lkM g1 t v1 (.slice none 0 0) ⟨srt (W t), [], false, 0⟩)) 12) ++ [qlM true g2 t v2 (.slice none 0 0) ⟨srt (W t), [], false, 0⟩]) w6 → (w6.cell? ⟨ga, t, none⟩ = some nilV ∧ w6.frozen? ⟨ga, t, none⟩ = false) ∧ ((w6.setCell ⟨ga, t, none⟩ (ptrV g1)).cell? ⟨gb, t, none⟩ = some nilV ∧ (w6.setCell ⟨ga, t, none⟩ (ptrV g1)).frozen? ⟨gb, t, none⟩ = false) ∧ Lo w1 lo hi b rb q6 A3_ A3_ (XB gp ga gb gc gd b rb (upf ph t (.lock g1 g2 ⟨srt (W t), [], false, 0⟩)) ++ Tn (upf (upf o t (lkM g1 t v1 (.slice none 0 0) ⟨srt (W t), [], false, 0⟩)) (3 + t) (qlM true g2 t v2 (.slice none 0 0) ⟨srt (W t), [], false, 0⟩)) 12) ((w6.setCell ⟨ga, t, none⟩ (ptrV g1)).setCell ⟨gb, t, none⟩ (ptrV g2)) := fun w6 g1 v1 g2 v2 h => by
      have h2 := ex_put (t := 3 + t) (by omega) (by rw [upf_ne (by omega)]; exact hn3) h
      have h3 := st_ab h2 ht (.lock g1 g2 ⟨srt (W t), [], false, 0⟩) (by rw [hidle]; rfl) (by rw [hidle]; rfl)
      rw [hidle] at h3
      exact h3
    have HLW : Hid (LW ⟨srt (W t), [], false, 0⟩) := Lib.hid (ls_srt hw8 hw5)
    have hs0 : True := trivial
    clear hB1 hwa c2 heq hgu HC hn0 hn3
    go_upto_region 21 with (fail)
    go_region_held3 (fun W : World => True) (first | exact trivial) (first
        | (go_at_call 12; (with_reducible refine hwa1.mono ?_); rintro e w3 ⟨pw, cw, rfl, hrw, hbw⟩; have hnl1 := hnl1 _ _ _ hbw hrw)
        | (go_at_call 11; (with_reducible refine hnl1.mono ?_); rintro e w4 ⟨g1, v1, rfl, hL4⟩; have hwa2 := hwa2 _ _ hL4; have hnl2 := hnl2 _ _ _ hL4)
        | (go_at_call 12; (with_reducible refine hwa2.mono ?_); rintro e w5 ⟨pw5, cw5, rfl, hrw5, hbw5⟩; have hnl2 := hnl2 _ _ _ hbw5 hrw5)
        | (go_at_call 13; (with_reducible refine hnl2.mono ?_); rintro e w6 ⟨g2, v2, rfl, hL6⟩; obtain ⟨⟨d1, d2⟩, ⟨d3, d4⟩, hL7⟩ := hpost _ _ _ _ _ hL6))
    all_goals go_wp2_with fail
    all_goals go_meet
    all_goals exact ⟨_, _, Lib.hid (by rw [upf_at]; rfl), Lib.hid (fi_new HF.out ht hidle HLW.out), Lib.hid hL7⟩
theorem piece_2 : Pc.1.2.1 := by
  intro w A0 n0 c0 n1 c1 z1 A2z1 n2 c2 z2 W HW HY hn80 Q'z1 hz1 w1 w2 A lo hi b rb HB1 gp W1z1 L1z1 Kz1 wrz1 u6z1 u10 u11 u29 u30 u31 u32 u33 u34 u35 u36 u37 u38 u39 u40 u41 u42 u43 u44 u45 p A2 hge Kz2 hz2 ga W1 L1z2 gb W2 L2 gc W3 L3 Kz3 az1 gd W4 L4 wr u6 u17 u46z1 u47z1 u48z1 u49z1 u50z1 u51z1 u52z1 u53z1 u54z1 u55z1 u56z1 u57z1 u58z1 u59z1 u60z1 u61z1 u62z1 u63z1 u64z1 u65z1 u66z1 u67z1 u68z1 u69z1 u70z1 u71z1 u72z1 u73z1 u74z1 u75z1 u76z1 u77z1 u78z1 u79z1 u80z1 u81z1 u82z1 u83z1 u84z1 u85z1 u86z1 u87z1 u88z1 u89z1 u90z1 u91z1 u92z1 u93z1 u94z1 u95z1 u96z1 u97z1 u98z1 u99z1 u100z1 u101z1 u102z1 u103z1 u104z1 u105z1 u106z1 u107z1 u108z1 u109z1 u110z1 u111z1 u112z1 u113z1 u114z1 u115z1 u116z1 u117z1 u118z1 u119z1 u120z1 u121z1 u122z1 u123z1 u124z1 u125z1 u126z1 u127z1 u128z1 u129z1 u130z1 u131z1 u132z1 u133z1 u134z1 u135z1 u136z1 u137z1 u138z1 u139z1 u140z1 u141z1 u142z1 u143z1 u144z1 u145z1 u146z1 u147z1 u148z1 u149z1 u150z1 u151z1 u152z1 u153z1 u154z1 u155z1 u156z1 u157z1 u158z1 u159z1 u160z1 u161z1 u162z1 u163z1 u164z1 u165z1 u166z1 u167z1 u168z1 u169z1 u170z1 u171z1 u172z1 u173z1 u174z1 u175z1 u176z1 u177z1 u178z1 u179z1 u180z1 u181z1 u182z1 u183z1 u184z1 u185z1 u186z1 u187z1 u188z1 u189z1 u190z1 u191z1 u192z1 u193z1 u194z1 u195z1 u196z1 u197z1 u198z1 u199z1 u200z1 u201z1 u202z1 u203z1 i phz1 oz1 A3_ hin hlt hltI bp po x HZ Q'z2 az2 leftz1 t ht htI ht0 Q'z3 Kz4 az3 z pv wc u46 u47 u48 u49 u50 u51 u52 u53 u54 u55 u56 u57 u58 u59 u60 u61 u62 u63 u64 u65 u66 u67 u68 u69 u70 u71 u72 u73 u74 u75 u76 u77 u78 u79 u80 u81 u82 u83 u84 u85 u86 u87 u88 u89 u90 u91 u92 u93 u94 u95 u96 u97 u98 u99 u100 u101 u102 u103 u104 u105 u106 u107 u108 u109 u110 u111 u112 u113 u114 u115 u116 u117 u118 u119 u120 u121 u122 u123 u124 u125 u126 u127 u128 u129 u130 u131 u132 u133 u134 u135 u136 u137 u138 u139 u140 u141 u142 u143 u144 u145 u146 u147 u148 u149 u150 u151 u152 u153 u154 u155 u156 u157 u158 u159 u160 u161 u162 u163 u164 u165 u166 u167 u168 u169 u170 u171 u172 u173 u174 u175 u176 u177 u178 u179 u180 u181 u182 u183 u184 u185 u186 u187 u188 u189 u190 u191 u192 u193 u194 u195 u196 u197 u198 u199 u200 u201 u202 u203 ph o HN HF g1 g2 s vl vo kq vs vq HW1z1 hlkz1 hrlz1 HW1 hlk hrl E0 E3 HA HB hfew hsl Kz5 az4 Kz6 az5 hold hL5 hwd n4 w5 v5 n6 hHeldz1 W6 L1 c3 HD hdn3
  have hnd : ¬ s.ys.length = s.S.length := of_decide_eq_false HD.out
  have hisL : isL (ph t) = true := by
    cases h : isL (ph t) with
    | false => exact absurd (hrl.out h).1 hnd
    | true => rfl
  obtain ⟨hpt, rfl, _, _⟩ := hlk.out hisL
  have HPT := Lib.hid hpt
  have HND := Lib.hid hnd
  clear hpt hnd hisL
  go_upto_region 27 with (go_at_call 15; (with_reducible refine hdn3.mono ?_); rintro e w7 ⟨rfl, n7, rfl⟩; have L2 := Lib.hid (L1.out.drewN n7))
  clear hdn3 c3 L1
  obtain ⟨W7, hW7⟩ : ∃ W7, W6.drewN n7 = W7 := ⟨_, rfl⟩
  rw [hW7] at L2
  first | rw [hW7] | skip
  clear hW7
  obtain ⟨k1, k2, k3, k4, k5, d, hac⟩ := lsAc_ex (t : Int) s (A3_ 2)
  have HAC := Lib.hid hac
  clear hac
  have hst1 := t_step L2.out.drew (j := t) (by omega) E0.out HW1.out.ok (vw_vok HF.out.v) ht0 (by omega) HAC
  have hst2 : ∀ W vl' vo', Lo w1 lo hi b rb q6 (upd A3_ 2 (lsO s) (lsP t s (A3_ 2))) A3_ (XB gp ga gb gc gd b rb ph ++ Tn (upf o t (lkM g1 t vl' vo' (nxS s (A3_ 2)))) 12) W → Calls _ _ _ _ _ := fun W vl' vo' h => tq_step h (j := 3 + t) (by omega) (by rw [upf_ne (by omega)]; exact E3.out) HW1.out.ok HND.out (vw_vok HF.out.v) ht0 (by omega) HAC
  have hsm : ∀ W ex, Lo w1 lo hi b rb q6 (upd A3_ 2 (lsO s) (lsP t s (A3_ 2))) (upd A3_ 2 (lsO s) (lsP t s (A3_ 2))) ex W → Calls _ _ _ _ _ := fun W ex h => lo_same h
  have hkk : ∀ (W : World) (A B : Int → List Int) (o' : Nat → Ob), Lo w1 lo hi b rb q6 A B (XB gp ga gb gc gd b rb ph ++ Tn o' 12) W → (fun W : World => W.cell? ⟨ga, t, none⟩ = some (ptrV g1) ∧ W.cell? ⟨gb, t, none⟩ = some (ptrV g2) ∧ W.cell? ⟨gp, 0, none⟩ = some (.pointer (some ⟨b, 0, none⟩)) ∧ W.cell? ⟨gp, 1, none⟩ = some (.pointer (some ⟨rb, 0, none⟩))) W := fun W A B o' h => ⟨(h.c 1 t rfl (a3_at ht)).trans (by rw [HA.out]), (h.c 2 t rfl (a3_at ht)).trans (by rw [HB.out]), h.c 0 0 rfl rfl, h.c 0 1 rfl rfl⟩
  have hs0 : (fun W : World => W.cell? ⟨ga, t, none⟩ = some (ptrV g1) ∧ W.cell? ⟨gb, t, none⟩ = some (ptrV g2) ∧ W.cell? ⟨gp, 0, none⟩ = some (.pointer (some ⟨b, 0, none⟩)) ∧ W.cell? ⟨gp, 1, none⟩ = some (.pointer (some ⟨rb, 0, none⟩))) W7.drew := hkk _ _ _ _ L2.out.drew
  go_region_held3 (fun W : World => W.cell? ⟨ga, t, none⟩ = some (ptrV g1) ∧ W.cell? ⟨gb, t, none⟩ = some (ptrV g2) ∧ W.cell? ⟨gp, 0, none⟩ = some (.pointer (some ⟨b, 0, none⟩)) ∧ W.cell? ⟨gp, 1, none⟩ = some (.pointer (some ⟨rb, 0, none⟩))) (first | (with_reducible exact hs0) | (with_reducible assumption)) (first
      | (go_at_call 18; (with_reducible refine hst1.mono ?_); rintro e w8 ⟨rfl, vl', vo', hL8⟩; have hst2 := hst2 _ _ _ hL8; have hk1 := hkk _ _ _ _ hL8)
      | (go_at_call 19; (with_reducible refine hst2.mono ?_); rintro e w9 ⟨rfl, vq', hL9⟩; have hsm := hsm _ _ hL9; have hk2 := hkk _ _ _ _ hL9)
      | (go_at_call 20; (with_reducible refine hsm.mono ?_); rintro e w10 ⟨rfl, hL10⟩; have hk3 := hkk _ _ _ _ hL10))
  obtain ⟨hN1, hN2⟩ := lw_next HW1.out HF.out.v ht0 htI
  have HF2 := Lib.hid (fi_lock (A5 := (upd A3_ 2 (lsO s) (lsP t s (A3_ 2)))) (vl := vl') (vo := vo') (vs := vs) (vq := vq') HF.out ht HPT.out (by rw [upd2]; exact vw_set HF.out.v hN2) hN1)
  have L3 : Hid (Lo w1 lo hi b rb q6 (upd A3_ 2 (lsO s) (lsP t s (A3_ 2))) (upd A3_ 2 (lsO s) (lsP t s (A3_ 2))) (XB gp ga gb gc gd b rb (upf ph t (.lock g1 g2 (nxS s (A3_ 2)))) ++ Tn (upf (upf o t (lkM g1 t vl' vo' (nxS s (A3_ 2)))) (3 + t) (qlM true g2 t vs vq' (nxS s (A3_ 2)))) 12) w10) := Lib.hid (by rw [xb_same (by rw [HPT.out]; rfl) (by rw [HPT.out]; rfl) (by rw [HPT.out]; rfl) (by rw [HPT.out]; rfl)]; exact hL10)
  clear hs0 hst1 hst2 hsm hkk hk1 hk2 hk3 hL8 hL9 hL10 hN1 hN2 L2
  go_wp2_with fail
  go_roundw
  case rel => exact ⟨i + 1, _, _, _, by omega, by go_num, HF2, L3⟩
  case measure => simp [intOf]; omega
theorem piece_3 : Pc.1.2.2.1 := by
  intro w A0 n0 c0 n1 c1 z1 A2z1 n2 c2 z2 W HW HY hn80 Q'z1 hz1 w1 w2 A lo hi b rb HB1 gp W1z1 L1z1 Kz1 wrz1 u6z1 u10 u11 u29 u30 u31 u32 u33 u34 u35 u36 u37 u38 u39 u40 u41 u42 u43 u44 u45 p A2 hge Kz2 hz2 ga W1 L1 gb W2 L2z1 gc W3 L3 Kz3 az1 gd W4 L4 wr u6 u17 u46z1 u47z1 u48z1 u49z1 u50z1 u51z1 u52z1 u53z1 u54z1 u55z1 u56z1 u57z1 u58z1 u59z1 u60z1 u61z1 u62z1 u63z1 u64z1 u65z1 u66z1 u67z1 u68z1 u69z1 u70z1 u71z1 u72z1 u73z1 u74z1 u75z1 u76z1 u77z1 u78z1 u79z1 u80z1 u81z1 u82z1 u83z1 u84z1 u85z1 u86z1 u87z1 u88z1 u89z1 u90z1 u91z1 u92z1 u93z1 u94z1 u95z1 u96z1 u97z1 u98z1 u99z1 u100z1 u101z1 u102z1 u103z1 u104z1 u105z1 u106z1 u107z1 u108z1 u109z1 u110z1 u111z1 u112z1 u113z1 u114z1 u115z1 u116z1 u117z1 u118z1 u119z1 u120z1 u121z1 u122z1 u123z1 u124z1 u125z1 u126z1 u127z1 u128z1 u129z1 u130z1 u131z1 u132z1 u133z1 u134z1 u135z1 u136z1 u137z1 u138z1 u139z1 u140z1 u141z1 u142z1 u143z1 u144z1 u145z1 u146z1 u147z1 u148z1 u149z1 u150z1 u151z1 u152z1 u153z1 u154z1 u155z1 u156z1 u157z1 u158z1 u159z1 u160z1 u161z1 u162z1 u163z1 u164z1 u165z1 u166z1 u167z1 u168z1 u169z1 u170z1 u171z1 u172z1 u173z1 u174z1 u175z1 u176z1 u177z1 u178z1 u179z1 u180z1 u181z1 u182z1 u183z1 u184z1 u185z1 u186z1 u187z1 u188z1 u189z1 u190z1 u191z1 u192z1 u193z1 u194z1 u195z1 u196z1 u197z1 u198z1 u199z1 u200z1 u201z1 u202z1 u203z1 i phz1 oz1 A3_ hin hlt hltI bp po x HZ Q'z2 az2 leftz1 t ht htI ht0 Q'z3 Kz4 az3 zz1 pvz1 wc u46 u47 u48 u49 u50 u51 u52 u53 u54 u55 u56 u57 u58 u59 u60 u61 u62 u63 u64 u65 u66 u67 u68 u69 u70 u71 u72 u73 u74 u75 u76 u77 u78 u79 u80 u81 u82 u83 u84 u85 u86 u87 u88 u89 u90 u91 u92 u93 u94 u95 u96 u97 u98 u99 u100 u101 u102 u103 u104 u105 u106 u107 u108 u109 u110 u111 u112 u113 u114 u115 u116 u117 u118 u119 u120 u121 u122 u123 u124 u125 u126 u127 u128 u129 u130 u131 u132 u133 u134 u135 u136 u137 u138 u139 u140 u141 u142 u143 u144 u145 u146 u147 u148 u149 u150 u151 u152 u153 u154 u155 u156 u157 u158 u159 u160 u161 u162 u163 u164 u165 u166 u167 u168 u169 u170 u171 u172 u173 u174 u175 u176 u177 u178 u179 u180 u181 u182 u183 u184 u185 u186 u187 u188 u189 u190 u191 u192 u193 u194 u195 u196 u197 u198 u199 u200 u201 u202 u203 ph o HN HF g1 g2 s vl vo kq vs vq HW1z1 hlkz1 hrlz1 HW1 hlk hrl E0 E3 HA HB hfew hsl hold hL5 hwd n4 w5 v5 n6 hHeldz1 W6 HD HL n7 Kz5 az4 W7 L2 z pv c4 HC HZN heq hgu Jz1 K'z1 az5 az6
  cases z with
  | false =>
    go_wp2_with fail
    all_goals go_meet
    all_goals exact ⟨ph, o, Lib.hid ⟨HZN.out, HN.out⟩, HF, L2⟩
  | true =>
    obtain ⟨hpt, rfl, hn6, hn9⟩ := hlk.out HZN.out
    have HPT := Lib.hid hpt
    clear hpt
    obtain ⟨hm9, hr1, hr2⟩ := tq_rows L2.out.drew (j := 3 + t) (by omega) E3.out
    have hyn := y_new L2.out.drew vs vq s.S s.ys hr1 hr2 HL.out.symm hfew
    have hsn := fun (w8 : World) (g3 : Nat) (v1 v2 : Value) (h : Lo w1 lo hi b rb q6 A3_ A3_ ((XB gp ga gb gc gd b rb ph ++ Tn o 12) ++ [reM g3 v1 v2 s.S s.ys 0]) w8) => new_st h ht E3.out hn6 hn9 HL.out
    have hkk1 : ∀ (W : World) (R : List Ob), Lo w1 lo hi b rb q6 A3_ A3_ ((XB gp ga gb gc gd b rb ph ++ Tn o 12) ++ R) W → (fun W : World => W.cell? ⟨gb, t, none⟩ = some (ptrV g2) ∧ W.cell? ⟨g2, 1, none⟩ = some vs ∧ W.cell? ⟨g2, 2, none⟩ = some vq) W := fun W R h => ⟨(h.c 2 t rfl (a3_at ht)).trans (by rw [HB.out]), (tq_rows h.drop (by omega) E3.out).1.cell 1, (tq_rows h.drop (by omega) E3.out).1.cell 2⟩
    have hkk2 : ∀ (W : World) (o' : Nat → Ob), Lo w1 lo hi b rb q6 A3_ A3_ (XB gp ga gb gc gd b rb ph ++ Tn o' 12) W → o' (3 + t) = qlM false g2 t vs vq s → (fun W : World => W.cell? ⟨gb, t, none⟩ = some (ptrV g2) ∧ W.cell? ⟨g2, 1, none⟩ = some vs ∧ W.cell? ⟨g2, 2, none⟩ = some vq) W := fun W o' h e => ⟨(h.c 2 t rfl (a3_at ht)).trans (by rw [HB.out]), (tq_rows h (by omega) e).1.cell 1, (tq_rows h (by omega) e).1.cell 2⟩
    have hkk3 : ∀ (W : World) (o' : Nat → Ob), Lo w1 lo hi b rb q6 A3_ A3_ (XB gp ga gb gc gd b rb ph ++ Tn o' 12) W → ∀ g3 : Nat, o' (3 + t) = qlM false g2 t vs vq s → (fun W : World => W.cell? ⟨gb, t, none⟩ = some (ptrV g2) ∧ W.cell? ⟨g2, 1, none⟩ = some vs ∧ W.cell? ⟨g2, 2, none⟩ = some vq) (W.setCell ⟨gc, t, none⟩ (ptrV g3)) := fun W o' h g3 e => by
      have k := keep_c h ht (ptrV g3) e
      rw [HB.out] at k
      exact k
    have hpost : ∀ (W : World) (o' : Nat → Ob) (g3 g4 : Nat), Lo w1 lo hi b rb q6 A3_ A3_ (XB gp ga gb gc gd b rb ph ++ Tn o' 12) W → (W.cell? ⟨gc, t, none⟩ = some nilV ∧ W.frozen? ⟨gc, t, none⟩ = false) ∧ ((W.setCell ⟨gc, t, none⟩ (ptrV g3)).cell? ⟨gd, t, none⟩ = some nilV ∧ (W.setCell ⟨gc, t, none⟩ (ptrV g3)).frozen? ⟨gd, t, none⟩ = false) ∧ Lo w1 lo hi b rb q6 A3_ A3_ (XB gp ga gb gc gd b rb (upf ph t (.rel g1 g2 g3 g4 s 0)) ++ Tn o' 12) ((W.setCell ⟨gc, t, none⟩ (ptrV g3)).setCell ⟨gd, t, none⟩ (ptrV g4)) := fun W o' g3 g4 h => by
      have k := st_cd h ht (.rel g1 g2 g3 g4 s 0) (by rw [HPT.out]; rfl) (by rw [HPT.out]; rfl)
      rw [HPT.out] at k
      exact k
    have hkk4 : ∀ (W : World) (o' : Nat → Ob) (g3 g4 : Nat), Lo w1 lo hi b rb q6 A3_ A3_ (XB gp ga gb gc gd b rb (upf ph t (.rel g1 g2 g3 g4 s 0)) ++ Tn o' 12) W → o' (3 + t) = qlM false g2 t vs vq s → (fun W : World => W.cell? ⟨gb, t, none⟩ = some (ptrV g2) ∧ W.cell? ⟨g2, 1, none⟩ = some vs ∧ W.cell? ⟨g2, 2, none⟩ = some vq) W := fun W o' g3 g4 h e => ⟨(h.c 2 t rfl (a3_at ht)).trans (by rw [upf_at]; rfl), (tq_rows h (by omega) e).1.cell 1, (tq_rows h (by omega) e).1.cell 2⟩
    have hs0 : (fun W : World => W.cell? ⟨gb, t, none⟩ = some (ptrV g2) ∧ W.cell? ⟨g2, 1, none⟩ = some vs ∧ W.cell? ⟨g2, 2, none⟩ = some vq) W7.drew := hkk1 _ [] (by rw [List.append_nil]; exact L2.out.drew)
    clear hr1 hr2 hm9 c4 heq hgu HC
    go_upto_region 30 with (fail)
    go_region_held3 (fun W : World => W.cell? ⟨gb, t, none⟩ = some (ptrV g2) ∧ W.cell? ⟨g2, 1, none⟩ = some vs ∧ W.cell? ⟨g2, 2, none⟩ = some vq) (first | (with_reducible exact hs0) | (with_reducible assumption)) (first
        | (go_at_call 21; (with_reducible refine hyn.mono ?_); rintro e w8 ⟨g3, q1, d1, q2, d2, rfl, hL8⟩; have hsn := hsn _ _ _ _ hL8; have hk1 := hkk1 _ _ hL8)
        | (go_at_call 22; (with_reducible refine hsn.mono ?_); rintro e w9 ⟨g4, rfl, hL9⟩; have hk2 := hkk2 _ _ hL9 (by rw [upf_ne (by omega), upf_at]); obtain ⟨⟨x1, x2⟩, ⟨x3, x4⟩, hL10⟩ := hpost _ _ g3 g4 hL9; have hk3 := hkk3 _ _ hL9 g3 (by rw [upf_ne (by omega), upf_at]); have hk4 := hkk4 _ _ _ _ hL10 (by rw [upf_ne (by omega), upf_at])))
    all_goals go_wp2_with fail
    all_goals go_meet
    all_goals exact ⟨_, _, Lib.hid (by rw [upf_at]; exact ⟨rfl, rfl⟩), Lib.hid (fi_rel HF.out ht HPT.out HL.out E3.out), Lib.hid hL10⟩
theorem piece_4 : Pc.1.2.2.2 := by
  intro w A0 n0 c0 n1 c1 z1 A2z1 n2 c2 z2 W HW HY hn80 Q'z1 hz1 w1 w2 A lo hi b rb HB1 gp W1z1 L1z1 Kz1 wrz1 u6z1 u10 u11 u29 u30 u31 u32 u33 u34 u35 u36 u37 u38 u39 u40 u41 u42 u43 u44 u45 p A2 hge Kz2 hz2 ga W1 L1 gb W2 L2z1 gc W3 L3 Kz3 az1 gd W4 L4 wr u6 u17 u46z1 u47z1 u48z1 u49z1 u50z1 u51z1 u52z1 u53z1 u54z1 u55z1 u56z1 u57z1 u58z1 u59z1 u60z1 u61z1 u62z1 u63z1 u64z1 u65z1 u66z1 u67z1 u68z1 u69z1 u70z1 u71z1 u72z1 u73z1 u74z1 u75z1 u76z1 u77z1 u78z1 u79z1 u80z1 u81z1 u82z1 u83z1 u84z1 u85z1 u86z1 u87z1 u88z1 u89z1 u90z1 u91z1 u92z1 u93z1 u94z1 u95z1 u96z1 u97z1 u98z1 u99z1 u100z1 u101z1 u102z1 u103z1 u104z1 u105z1 u106z1 u107z1 u108z1 u109z1 u110z1 u111z1 u112z1 u113z1 u114z1 u115z1 u116z1 u117z1 u118z1 u119z1 u120z1 u121z1 u122z1 u123z1 u124z1 u125z1 u126z1 u127z1 u128z1 u129z1 u130z1 u131z1 u132z1 u133z1 u134z1 u135z1 u136z1 u137z1 u138z1 u139z1 u140z1 u141z1 u142z1 u143z1 u144z1 u145z1 u146z1 u147z1 u148z1 u149z1 u150z1 u151z1 u152z1 u153z1 u154z1 u155z1 u156z1 u157z1 u158z1 u159z1 u160z1 u161z1 u162z1 u163z1 u164z1 u165z1 u166z1 u167z1 u168z1 u169z1 u170z1 u171z1 u172z1 u173z1 u174z1 u175z1 u176z1 u177z1 u178z1 u179z1 u180z1 u181z1 u182z1 u183z1 u184z1 u185z1 u186z1 u187z1 u188z1 u189z1 u190z1 u191z1 u192z1 u193z1 u194z1 u195z1 u196z1 u197z1 u198z1 u199z1 u200z1 u201z1 u202z1 u203z1 i phz1 oz1 A3_ hin hlt hltI bp po x HZ Q'z2 az2 leftz1 t ht htI ht0 Q'z3 Kz4 az3 zz1 pvz1 wcz1 u46z2 u47z2 u48z2 u49z2 u50z2 u51z2 u52z2 u53z2 u54z2 u55z2 u56z2 u57z2 u58z2 u59z2 u60z2 u61z2 u62z2 u63z2 u64z2 u65z2 u66z2 u67z2 u68z2 u69z2 u70z2 u71z2 u72z2 u73z2 u74z2 u75z2 u76z2 u77z2 u78z2 u79z2 u80z2 u81z2 u82z2 u83z2 u84z2 u85z2 u86z2 u87z2 u88z2 u89z2 u90z2 u91z2 u92z2 u93z2 u94z2 u95z2 u96z2 u97z2 u98z2 u99z2 u100z2 u101z2 u102z2 u103z2 u104z2 u105z2 u106z2 u107z2 u108z2 u109z2 u110z2 u111z2 u112z2 u113z2 u114z2 u115z2 u116z2 u117z2 u118z2 u119z2 u120z2 u121z2 u122z2 u123z2 u124z2 u125z2 u126z2 u127z2 u128z2 u129z2 u130z2 u131z2 u132z2 u133z2 u134z2 u135z2 u136z2 u137z2 u138z2 u139z2 u140z2 u141z2 u142z2 u143z2 u144z2 u145z2 u146z2 u147z2 u148z2 u149z2 u150z2 u151z2 u152z2 u153z2 u154z2 u155z2 u156z2 u157z2 u158z2 u159z2 u160z2 u161z2 u162z2 u163z2 u164z2 u165z2 u166z2 u167z2 u168z2 u169z2 u170z2 u171z2 u172z2 u173z2 u174z2 u175z2 u176z2 u177z2 u178z2 u179z2 u180z2 u181z2 u182z2 u183z2 u184z2 u185z2 u186z2 u187z2 u188z2 u189z2 u190z2 u191z2 u192z2 u193z2 u194z2 u195z2 u196z2 u197z2 u198z2 u199z2 u200z2 u201z2 u202z2 u203z2 ph o HN HF g1 g2 s vl vo kq vs vq HW1z1 hlkz1 hrlz1 HW1 hlk hrl E0 E3 HA HB hfew hsl hold hL5 hwd n4 w5 v5 n6 hHeldz1 W6 HD HL n7 Kz5 az4 W7 L2 z pv c4 HC HZN heq hgu wc u46 u47 u48 u49 u50 u51 u52 u53 u54 u55 u56 u57 u58 u59 u60 u61 u62 u63 u64 u65 u66 u67 u68 u69 u70 u71 u72 u73 u74 u75 u76 u77 u78 u79 u80 u81 u82 u83 u84 u85 u86 u87 u88 u89 u90 u91 u92 u93 u94 u95 u96 u97 u98 u99 u100 u101 u102 u103 u104 u105 u106 u107 u108 u109 u110 u111 u112 u113 u114 u115 u116 u117 u118 u119 u120 u121 u122 u123 u124 u125 u126 u127 u128 u129 u130 u131 u132 u133 u134 u135 u136 u137 u138 u139 u140 u141 u142 u143 u144 u145 u146 u147 u148 u149 u150 u151 u152 u153 u154 u155 u156 u157 u158 u159 u160 u161 u162 u163 u164 u165 u166 u167 u168 u169 u170 u171 u172 u173 u174 u175 u176 u177 u178 u179 u180 u181 u182 u183 u184 u185 u186 u187 u188 u189 u190 u191 u192 u193 u194 u195 u196 u197 u198 u199 u200 u201 u202 u203 hcut
  clear HF HN L2 c4 heq hgu HC HZN hlk hrl E0 E3 HA HB HW1 HL HD hfew hsl
  obtain ⟨ph, o, HN, HF, L0⟩ := hcut
  obtain ⟨g1, g2, g3, g4, s, n, vs, vq, v1, v2, hpt, e3, e6, e9, HW1, hl, hn⟩ := fi_rl HF.out ht HN.out.1 HN.out.2
  have hrs := Lib.hid (rel_step (w0 := w1) (lo := lo) (hi := hi) (b := b) (rb := rb) (q := q6) (X := XB gp ga gb gc gd b rb ph) ht e3 e6 e9 HW1 hl hn HF.out.v)
  have HPT := Lib.hid hpt
  have E3 := Lib.hid e3
  clear hpt e3 e6 e9 HW1 hl hn
  have c5 : wc.cell? ⟨gc, t, none⟩ = some (ptrV g3) := (L0.out.c 3 t rfl (a3_at ht)).trans (by rw [HPT.out]; rfl)
  go_upto_region 33 with (fail)
  clear c5
  obtain ⟨k1, k2, k3, k4, k5, d, m, A5, hm, hV5, hy, hzz⟩ := hrs.out
  clear hrs
  have HF2 := fun v1 v2 => fi_next (v1 := v1) (v2 := v2) HF.out ht HPT.out E3.out hm hV5
  have HF2 := Lib.hid (HF2 v1 v2)
  obtain ⟨E, hE⟩ : ∃ E, ((m : Int) == (s.S.length : Int)) = E := ⟨_, rfl⟩
  have HE := Lib.hid hE
  clear hE hV5
  have hkk : ∀ (W : World) (A B : Int → List Int) (o' : Nat → Ob), Lo w1 lo hi b rb q6 A B (XB gp ga gb gc gd b rb ph ++ Tn o' 12) W → (fun W : World => W.cell? ⟨gc, t, none⟩ = some (ptrV g3) ∧ W.cell? ⟨gd, t, none⟩ = some (ptrV g4) ∧ W.cell? ⟨gp, 0, none⟩ = some (.pointer (some ⟨b, 0, none⟩)) ∧ W.cell? ⟨gp, 1, none⟩ = some (.pointer (some ⟨rb, 0, none⟩))) W := fun W A B o' h => ⟨(h.c 3 t rfl (a3_at ht)).trans (by rw [HPT.out]; rfl), (h.c 4 t rfl (a3_at ht)).trans (by rw [HPT.out]; rfl), h.c 0 0 rfl rfl, h.c 0 1 rfl rfl⟩
  have hs0 : (fun W : World => W.cell? ⟨gc, t, none⟩ = some (ptrV g3) ∧ W.cell? ⟨gd, t, none⟩ = some (ptrV g4) ∧ W.cell? ⟨gp, 0, none⟩ = some (.pointer (some ⟨b, 0, none⟩)) ∧ W.cell? ⟨gp, 1, none⟩ = some (.pointer (some ⟨rb, 0, none⟩))) wc.drew := hkk _ _ _ _ L0.out.drew
  have hy1 := hy _ L0.out.drew
  have hd1 : ∀ W, Lo w1 lo hi b rb q6 A5 A5 (XB gp ga gb gc gd b rb ph ++ Tn (upf (upf o (6 + t) (reM g3 v1 v2 s.S s.ys m)) (9 + t) (stM g4 vs vq m)) 12) W → Calls _ _ _ _ _ := fun W h => ty_done h (j := 6 + t) (by omega) (by rw [upf_ne (by omega), upf_at]) HE
  have hd2 : ∀ W, Lo w1 lo hi b rb q6 A5 A5 (XB gp ga gb gc gd b rb ph ++ Tn (upf (upf o (6 + t) (reM g3 v1 v2 s.S s.ys m)) (9 + t) (stM g4 vs vq m)) 12) W → Calls _ _ _ _ _ := fun W h => tz_done h (i := 3 + t) (j := 9 + t) (by omega) (by rw [upf_ne (by omega), upf_ne (by omega)]; exact E3.out) (by omega) (by rw [upf_at]) HE
  have hsm : ∀ W, Lo w1 lo hi b rb q6 A5 A5 (XB gp ga gb gc gd b rb ph ++ Tn (upf (upf o (6 + t) (reM g3 v1 v2 s.S s.ys m)) (9 + t) (stM g4 vs vq m)) 12) W → Calls _ _ _ _ _ := fun W h => lo_same h
  have hd3 := hd2
  have hEE : (E != E) = false := by cases E <;> rfl
  go_region_held3 (fun W : World => W.cell? ⟨gc, t, none⟩ = some (ptrV g3) ∧ W.cell? ⟨gd, t, none⟩ = some (ptrV g4) ∧ W.cell? ⟨gp, 0, none⟩ = some (.pointer (some ⟨b, 0, none⟩)) ∧ W.cell? ⟨gp, 1, none⟩ = some (.pointer (some ⟨rb, 0, none⟩))) (first | (with_reducible exact hs0) | (with_reducible assumption)) (first
      | (go_at_call 23; (with_reducible refine hy1.mono ?_); rintro e w6 ⟨rfl, hL6⟩; have hzz := hzz _ hL6; have hk1 := hkk _ _ _ _ hL6)
      | (go_at_call 24; (with_reducible refine hzz.mono ?_); rintro e w7 ⟨rfl, hL7⟩; have hd1 := hd1 _ hL7; have hk2 := hkk _ _ _ _ hL7)
      | (go_at_call 25; (with_reducible refine hd1.mono ?_); rintro e w8 ⟨rfl, n8, rfl⟩; have hL8 := hL7.drewN n8; have hd2 := hd2 _ hL8; have hk3 := hkk _ _ _ _ hL8)
      | (go_at_call 26; (with_reducible refine hd2.mono ?_); rintro e w9 ⟨rfl, n9, rfl⟩; have hL9 := hL7.drewN (n8 + n9); have hsm := hsm _ hL9; have hk4 := hkk _ _ _ _ hL9)
      | (go_at_call 20; (with_reducible refine hsm.mono ?_); rintro e w10 ⟨rfl, hL10⟩; have hk5 := hkk _ _ _ _ hL10))
  have L1 := Lib.hid hL10
  have hd3 := hd3 _ hL10
  clear hs0 hy1 hy hzz hd1 hd2 hsm hkk hk1 hk2 hk3 hk4 hk5 hL6 hL7 hL8 hL9 hL10 L0 hEE
  have L2 : Hid (Lo w1 lo hi b rb q6 A5 A5 (XB gp ga gb gc gd b rb (upf ph t (.rel g1 g2 g3 g4 s m)) ++ Tn (upf (upf o (6 + t) (reM g3 v1 v2 s.S s.ys m)) (9 + t) (stM g4 vs vq m)) 12) w10) := Lib.hid (by rw [xb_same (by rw [HPT.out]; rfl) (by rw [HPT.out]; rfl) (by rw [HPT.out]; rfl) (by rw [HPT.out]; rfl)]; exact L1.out)
  have c6 : w10.cell? ⟨gd, t, none⟩ = some (ptrV g4) := (L1.out.c 4 t rfl (a3_at ht)).trans (by rw [HPT.out]; rfl)
  clear L1
  cases E with
  | false =>
    go_wp2_with (go_at_call 26; (with_reducible refine hd3.mono ?_); rintro e w11 ⟨rfl, n11, rfl⟩; have L3 := Lib.hid (L2.out.drewN n11))
    go_roundw
    case rel => exact ⟨i + 1, _, _, _, by omega, by go_num, HF2, L3⟩
    case measure => simp [intOf]; omega
  | true =>
    go_upto_region 36 with (go_at_call 26; (with_reducible refine hd3.mono ?_); rintro e w11 ⟨rfl, n11, rfl⟩; have L3 := Lib.hid (L2.out.drewN n11))
    obtain ⟨_, _, _, rfl, rfl, rfl, ⟨x1, x2⟩, ⟨x3, x4⟩, ⟨x5, x6⟩, ⟨x7, x8⟩, hL4⟩ := st_nil L3.out ht
    have L4 := Lib.hid hL4
    have HF3 := Lib.hid (fi_idle HF2.out ht)
    clear hL4 L2 L3 hd3 c6 HF2
    go_wp2_with fail
    go_roundw
    case rel => exact ⟨i + 1, _, _, _, by omega, by go_num, HF3, L4⟩
    case measure => simp [intOf]; omega
theorem walk (w : World) (A0 : Option Addr) (n0 c0 : Nat) (l0 : n0 ≤ c0) (m0 : c0 ≤ maxLen) (s0 : ArgL.LL w A0 n0) (A1 : Option Addr) (n1 c1 : Nat) (z1 : List Int) (l1 : n1 ≤ c1) (m1 : c1 ≤ maxLen) (s1 : Ints .i64 w A1 n1 z1) (A2 : Option Addr) (n2 c2 : Nat) (z2 : List Int) (l2 : n2 ≤ c2) (m2 : c2 ≤ maxLen) (s2 : Ints .i64 w A2 n2 z2) :
    Calls Tryz.prog 3 #[.slice A0 n0 c0, .slice A1 n1 c1, .slice A2 n2 c2] w fun e w' => e = .returned (.bool true) ∧ Kept w w' := Pc.2 ⟨piece_1⟩ ⟨piece_2⟩ ⟨piece_3⟩ ⟨piece_4⟩ w A0 n0 c0 l0 m0 s0 A1 n1 c1 z1 l1 m1 s1 A2 n2 c2 z2 l2 m2 s2
/-! The row's step. -/
set_option maxRecDepth 100000 in
theorem lifted (os : Os) (started : os.Started) (H : Type) (enc : TypeId × Value → H) :
    ReturnsInHanded {} Tryz.checked os 3 .any (Rows.lockerFollowsSpec.pre6 enc Tryz.prog Tryz.f3 Rows.lockerFollowsRow.domain false) (Rows.lockerFollowsSpec.post enc Tryz.prog Tryz.f3 false true false false) := by
  refine returnsInHanded_of_change (C := Tryz.checked) own started (by kernel_rfl) Tryz.func3
    (ChangeSpec.witness6 (enc := enc) (C := Tryz.checked) false ⟨#[], #[.slice none 0 0, .slice none 0 0, .slice none 0 0], []⟩ 8 (by kernel_rfl) (by kernel_rfl) (by kernel_rfl) (by kernel_rfl)) ?_
  intro W base args ds gs before hval0 hW hcnd _
  have hval : ∀ (j : Nat) t v, Tryz.f3.params[j]? = some t → args[j]? = some v → Value.okWide Tryz.prog W .any base t v := hval0
  have hW' := hW
  obtain ⟨p, q, hA0, hV, rfl, hfz, hnd⟩ := hW
  have hA : DataW.TrodAll enc Tryz.prog W 0 (fun _ => true) true Tryz.f3.params.toList args.toList ds p := hA0
  rw [Tryz.params3] at hA hval
  obtain ⟨v0, vs0, d0, ds0, p0, q0, hargs, rfl, rfl, h0, r0⟩ := trodAll_cons hA
  obtain ⟨v1, vs1, d1, ds1, p1, q1, rfl, rfl, rfl, h1, r1⟩ := trodAll_cons r0
  obtain ⟨v2, vs2, d2, ds2, p2, q2, rfl, rfl, rfl, h2, r2⟩ := trodAll_cons r1
  obtain ⟨rfl, rfl, rfl⟩ := trodAll_nil r2
  obtain rfl : args = #[v0, v1, v2] := by cases args; simp_all
  obtain ⟨rfl, rfl⟩ := trodVars_none hV
  have hk : ∀ W', Kept W W' → Rows.lockerFollowsSpec.post enc Tryz.prog Tryz.f3 false true false false W #[v0, v1, v2] (.bool true) W' := fun W' hb =>
    post_law laidOut readable rfl Tryz.underlying4 rfl hW' rfl hb
  clear hA0 hval0 hA hW'
  obtain ⟨A0, n0, c0, rfl, l0, m0, s0⟩ := ArgL.open_ll (hval 0 22 v0 rfl rfl) h0
  obtain ⟨A1, n1, c1, z1, rfl, l1, m1, s1⟩ := open_slice Tryz.underlying23 Tryz.underlying3 cells3 (hval 1 23 v1 rfl rfl) h1
  obtain ⟨A2, n2, c2, z2, rfl, l2, m2, s2⟩ := open_slice Tryz.underlying23 Tryz.underlying3 cells3 (hval 2 23 v2 rfl rfl) h2
  refine (walk W A0 n0 c0 l0 m0 s0 A1 n1 c1 z1 l1 m1 s1 A2 n2 c2 z2 l2 m2 s2).mono fun e W' ⟨he, hg⟩ => ?_
  subst he
  exact ⟨_, rfl, hk W' hg⟩

theorem over : Rows.lockerFollowsRow.holds Tryz.pinned (OpenSpec.ofChange Rows.lockerFollowsSpec) :=
  OpenClaim.holds_of_wide 3 Tryz.f3 rfl rfl rfl rfl rfl rfl rfl ⟨rfl, rfl, rfl, rfl, rfl⟩ rfl rfl rfl rfl rfl (by kernel_rfl) Tryz.func3 (by kernel_rfl)
    (of_decide_eq_true (by kernel_rfl)) (by unfold Func.isWrapper; first | (rw [if_pos (by decide +kernel)]; kernel_rfl) | (rw [if_neg (by decide +kernel)]; exact ⟨rfl, rfl⟩))
    (fun os started H enc _ => lifted os started H enc)

/-- The statement. -/
theorem proved : Rows.LockerFollowsSaid :=
  over
#print axioms proved
end Go.Proofs.YtphnadchdhblpaaGreat.lockerFollows
