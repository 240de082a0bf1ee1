/-
  Proved: blocks are neither lost nor doubled: each is in the limbo, in the list of its class, or was never added. No condition.
-/
import Derived.Test.YtpjbmbipkmpkhaaRows
import Derived.WalkKit
import Derived.ProofKit
import Derived.OpenShut
import Derived.Test.YtpjbmbipkmpkhaaFrame
import Derived.Test.YtpjbmbipkmpkhaaLmK
import Derived.Test.YtpjbmbipkmpkhaaLmO
import Derived.Test.YtpjbmbipkmpkhaaLayO
import Derived.Deep.RegionHeld3
import Derived.Deep.RegionLaw
import Derived.Deep.Cut
import Derived.Deep.DeepCutAuto
import Derived.Deep.CutBlock
import Derived.BigQuiet
import Derived.BigRegion
import Derived.Deep.QuietTactic
namespace Go.Proofs.Ytpjbmbipkmpkhaa.limboKeeps
open Go.ChangeShapes Go.WideShapes Go.ChangeAt Go.RowKit
open LawFrame
open Go.ChangeMaps (open_string)
set_option linter.unusedVariables false

theorem own : ownKnob Try.prog.godebug = none := by kernel_rfl
theorem laidOut : laidOutB Try.prog = true := by kernel_rfl

open FreA LawFrame PlainT BlkW LayS LayA LayF LayH LayK LayP CelS CelM CelP CelV CelN CelO CelI CelQ LabD LabR LabP LabS LabX LabN CelLo RsA ObjA ClnA FreP FreQ FreV FreC FreI LmP LmA LmB LmC LmD LmE LmF LmL LmK
set_option maxHeartbeats 20000000
set_option maxRecDepth 400000
theorem ct_wrap2 {ct : Nat} (h : ct ≤ 100) : IntKind.i64.wrap ((ct : Int) + 1) = (ct : Int) + 1 := IntWalk.i64_in _ (by omega)

theorem readable : ∀ t ∈ Try.f8.params.toList, Try.prog.readableRec t = true ∧ t < Try.prog.types.size := by
  have h : (Try.f8.params.toList.all fun t => Try.prog.readableRec t && decide (t < Try.prog.types.size)) = true := by kernel_rfl
  intro t ht
  have := List.all_eq_true.1 h t ht
  simpa using this

/-! The walk. -/
/-- What is left of the walk in 4 places, and that the contract rests on it. -/
noncomputable def Pc :
    { P : Prop × Prop × Prop × Prop // PLift P.1 → PLift P.2.1 → PLift P.2.2.1 → PLift P.2.2.2 → ∀ (w : World) (A0 : Option Addr) (n0 c0 : Nat) (l0 : n0 ≤ c0) (m0 : c0 ≤ maxLen) (s0 : LmO.RowD w A0 n0), Calls Try.prog 8 #[.slice A0 n0 c0] w fun e w' => e = .returned (.bool true) ∧ Kept w w' } := ⟨(_, _, _, _), fun h1p h2p h3p h4p => by
  intro w A0 n0 c0 l0 m0 s0
  have HS0 := Lib.hid s0
  clear s0 l0 m0
  go_enter Try.func8, Try.ntmps8
  by_cases hv : n0 ≤ 20
  · have hvI : (n0 : Int) ≤ 20 := by omega
    go_upto_region 4 with (first | (go_at_call 49; (with_reducible refine (l_heap18 _).mono ?_); rintro e wa ⟨rfl, hb1⟩) | (go_at_call 31; (with_reducible refine (start_heap 1 1 rfl (by decide) (by decide) _).mono ?_); rintro e w2 ⟨A, lo, hi, b, rb, rfl, hst⟩))
    have L0 : Hid (Lo wa lo hi b rb hq A A [] w2) := Lib.hid (Lo.begunN hst)
    have HC := Lib.hid (begun_heap hst)
    have HB1 := Lib.hid hb1
    clear hst hb1
    have L1 := Lib.hid (L0.out.new TP #[.pointer (some ⟨b, 0, none⟩), .pointer (some ⟨rb, 0, none⟩)])
    obtain ⟨gp, hn⟩ : ∃ gp, w2.heap.size = gp := ⟨_, rfl⟩
    rw [hn] at L1
    first | rw [hn] | skip
    clear hn
    obtain ⟨W1, hW⟩ : ∃ W', w2.alloc (.cells #[.pointer (some ⟨b, 0, none⟩), .pointer (some ⟨rb, 0, none⟩)] TP) = W' := ⟨_, rfl⟩
    rw [hW] at L1
    first | rw [hW] | skip
    clear hW
    have L1 : Hid (Lo wa lo hi b rb hq A A [bx gp TP #[.pointer (some ⟨b, 0, none⟩), .pointer (some ⟨rb, 0, none⟩)]] W1) := L1
    clear L0
    go_upto_region 7 with (first | (go_at_call 49; (with_reducible refine (l_heap18 _).mono ?_); rintro e wh ⟨rfl, hbh⟩; have hnw := x_new (Lo.below L1.out hbh)) | (go_at_call 50; (with_reducible refine hnw.mono ?_); rintro e w3 ⟨g, As, cs, rfl, hL⟩))
    have L2 : Hid (Lo wa lo hi b rb hq A A [bx gp TP #[.pointer (some ⟨b, 0, none⟩), .pointer (some ⟨rb, 0, none⟩)], lM g (.slice As 6 cs) (.slice none 0 0) []] w3) := Lib.hid (hL)
    clear L1 hL hnw hbh
    have LB : Hid (Lo wa lo hi b rb hq A A [bx gp TP #[.pointer (some ⟨b, 0, none⟩), .pointer (some ⟨rb, 0, none⟩)], lM g (.slice As 6 cs) (.slice none 0 0) [], rv TI 1 (.slice none 0 0) 0 (is (bI (List.range 0)))] w3) := Lib.hid (Lo.nilV L2.out TI 1)
    clear L2
    go_wp2_with fail
    go_loopw [6, 7] (fun ov kv wr => ∃ (k : Nat) (A1 : Int → List Int) (T1 : Nat → Int) (L1 : Nat → List Nat) (Ao : Option Addr) (co : Nat), k ≤ 3 ∧ kv = .int .i64 k ∧ ov = .slice Ao (pr k) co ∧ Hid (Ch (pr k : Int) A1 T1 L1 ∧ Dn k 0 L1) ∧ Hid (Lo wa lo hi b rb hq A1 A [bx gp TP #[.pointer (some ⟨b, 0, none⟩), .pointer (some ⟨rb, 0, none⟩)], lM g (.slice As 6 cs) (.slice none 0 0) [], rv TI 1 (.slice Ao (pr k) co) ((pr k)) (is (bI (List.range (pr k))))] wr)) (fun _ kv _ => 3 - (intOf kv).toNat)
    case atStart => exact ⟨0, A, T0, LmP.L0, none, 0, by omega, rfl, rfl, Lib.hid ⟨HC.out.1, dn_start⟩, LB⟩
    case round =>
      clear LB HC
      obtain ⟨k, A1, T1, L1, Ao, co, hk3, rfl, rfl, HC, L0⟩ := hrel
      by_cases hlt : k < 3
      · have hltI : (k : Int) < 3 := by omega
        rename_i Q'z1 hz1 L1z1 Kz1 az1
        revert w A0 n0 c0 HS0 hv hvI Q'z1 hz1 wa w2 A lo hi b rb HB1 gp W1 L1z1 wh w3 g As cs Kz1 az1 wr u2 u8 u9 u10 u41 u42 u43 u44 u45 u46 u47 u48 u49 u50 u51 u52 u53 u54 u55 u56 u57 u58 u59 u60 u61 u62 u63 u64 u65 u66 u67 u68 u69 k A1 T1 L1 Ao co hk3 HC L0 hlt hltI
        exact h1p.down
      · have hk : k = 3 := by omega
        have hkI : (3 : Int) ≤ k := by omega
        have HM : Hid (MI 10 A1 T1 L1 (List.range 6) []) := Lib.hid (by
          have h9 := HC.out
          rw [hk] at h9
          exact h9.2.mi (h9.1.more (by decide)))
        have hpk : pr k = 6 := by rw [hk]; rfl
        rw [hpk] at L0
        clear HC hlt hk3 hk
        have LW : Hid (Lo wa lo hi b rb hq A1 A [bx gp TP #[.pointer (some ⟨b, 0, none⟩), .pointer (some ⟨rb, 0, none⟩)], lM g (.slice As 6 cs) (.slice none 0 0) [], rd .i64 (.slice Ao 6 co) (bI (List.range 6))] wr) := Lib.hid (L0.out.see 2 rfl (rdr_own (T := TI) (B := 0) (L0.out.is 2 _ rfl)) (fun _ h => h))
        clear L0
        go_wp2_with fail
        go_loopw [6, 11] (fun ov iv wr => ∃ (i : Nat) (A1 : Int → List Int) (T1 : Nat → Int) (L1 : Nat → List Nat) (O : List Nat) (ws : WL) (sw : Value) (p : Option Addr) (nO co : Nat), i ≤ n0 ∧ iv = .int .i64 i ∧ ov = .slice p nO co ∧ O.length = nO ∧ Hid (MI (10 + 30 * (i : Int)) A1 T1 L1 O ws) ∧ Hid (Lo wa lo hi b rb hq A1 A [bx gp TP #[.pointer (some ⟨b, 0, none⟩), .pointer (some ⟨rb, 0, none⟩)], lM g (.slice As 6 cs) sw ws, rd .i64 (.slice p nO co) (bI O)] wr)) (fun _ iv _ => n0 - (intOf iv).toNat)
        case atStart => exact ⟨0, A1, T1, L1, List.range 6, [], _, Ao, 6, co, by omega, rfl, by first | rfl | rw [hpk], rfl, Lib.hid (HM.out.more (by omega)), LW⟩
        case round =>
          clear LW HM hpk hkI
          obtain ⟨i, A1, T1, L1, O, ws, sw, p, nO, co, hin, rfl, rfl, hO, HM, L0⟩ := hrel
          by_cases hlt : i < n0
          · have hltI : (i : Int) < n0 := by omega
            obtain ⟨ge, oe, d, ve, Ai, ni, ci, zi, rfl, e0, e1, e2, _, _, _⟩ := HS0.out.at_ (below_trans2 HB1.out L0.out.old) hlt
            have hpc := k_place_ex ve 9 (by decide) (by decide)
            go_upto_region 26 with ((go_at_call 12; (with_reducible refine (hpc _).mono ?_); rintro e w4 ⟨z, hz0, hz8, rfl, rfl⟩))
            clear hpc e1 e2
            have hwl := HM.out.wl
            have hol := HM.out.ol
            go_upto_if 86 with fail
            go_cut [6] (fun ov wc => ∃ (A2 : Int → List Int) (T2 : Nat → Int) (L2 : Nat → List Nat) (O2 : List Nat) (ws2 : WL) (sw2 : Value) (p2 : Option Addr) (n2 c2 : Nat), ov = .slice p2 n2 c2 ∧ O2.length = n2 ∧ Hid (MI (10 + 30 * (i : Int) + 30) A2 T2 L2 O2 ws2) ∧ Hid (Lo wa lo hi b rb hq A2 A [bx gp TP #[.pointer (some ⟨b, 0, none⟩), .pointer (some ⟨rb, 0, none⟩)], lM g (.slice As 6 cs) sw2 ws2, rd .i64 (.slice p2 n2 c2) (bI O2)] wc))
            case first =>
              rename_i Q'z1 hz1 L1z1 Kz1 wrz1 u2z1 A1z1 T1z1 L1z2 coz1 Kz2 hz2 Kz3 az1 Q'z2 az2 leftz1 leftz2 rightz1 Q'z3 Kz4 az3 Kz5 az4 Jz1 K'z1 az5 az6
              revert w n0 c0 hv hvI Q'z1 hz1 wa w2 A lo hi b rb HB1 gp W1 L1z1 wh w3 g As cs Kz1 wrz1 u2z1 u8 u9 u10 u41 u42 u43 u44 u45 u46 u47 u48 u49 u50 u51 u52 u53 u54 u55 u56 u57 u58 u59 u60 u61 u62 u63 u64 u65 u66 u67 u68 u69 k A1z1 T1z1 L1z2 Ao coz1 Kz2 hz2 Kz3 az1 wr u2 u12 u13 u14 u15 u16 u17 u18 u19 u20 u21 u22 u23 u70 u71 u72 u73 u74 u75 u76 u77 u78 u79 u80 u81 u82 u83 u84 u85 u86 u87 u88 u89 u90 u91 u92 u93 u94 u95 u96 u97 u98 u99 u100 u101 u102 u103 u104 u105 u106 u107 u108 u109 u110 u111 u112 u113 u114 u115 u116 u117 u118 u119 u120 u121 u122 u123 u124 u125 u126 u127 u128 u129 u130 u131 u132 u133 u134 u135 u136 u137 u138 u139 u140 u141 u142 u143 u144 u145 u146 u147 u148 u149 u150 u151 u152 u153 u154 u155 u156 u157 u158 u159 u160 u161 u162 u163 u164 u165 u166 u167 u168 u169 u170 u171 u172 u173 u174 u175 u176 u177 u178 u179 u180 u181 u182 u183 u184 u185 u186 u187 u188 u189 u190 i A1 T1 L1 O ws sw p nO co hin hO HM L0 hlt hltI ge oe d ve Ai ni ci zi HS0 Q'z2 az2 e0 leftz1 leftz2 rightz1 Q'z3 Kz4 az3 z hz0 hz8 Kz5 az4 hwl hol Jz1 K'z1 az5 az6
              exact h2p.down
            case rest =>
              clear L0 HM hO hwl hol
              obtain ⟨A2, T2, L2, O, ws, sw, p, nO, co, rfl, hO, HM, L0⟩ := hcut
              have hwl := HM.out.wl
              have hol := HM.out.ol
              have hmk : ∀ wx : World, (Instr.makeSlice 47 (.int .i64 6) (.int .i64 6)).run Try.prog wx = .ok (.slice (some ⟨wx.heap.size, 0, none⟩) 6 6) (wx.alloc (.cells (IA [0, 0, 0, 0, 0, 0]) TI)) := fun wx => make_i wx 6 (by decide)
              go_upto_region 42 with (fail)
              have LM1 := Lib.hid (L0.out.new TI (IA [0, 0, 0, 0, 0, 0]))
              obtain ⟨gc, hgc⟩ : ∃ gc, wc.heap.size = gc := ⟨_, rfl⟩
              rw [hgc] at LM1
              first | rw [hgc] | skip
              obtain ⟨w5, hW⟩ : ∃ W', wc.alloc (.cells (IA [0, 0, 0, 0, 0, 0]) TI) = W' := ⟨_, rfl⟩
              rw [hW] at LM1
              first | rw [hW] | skip
              clear hW hgc hmk L0
              have L1 : Hid (Lo wa lo hi b rb hq A2 A [bx gp TP #[.pointer (some ⟨b, 0, none⟩), .pointer (some ⟨rb, 0, none⟩)], lM g (.slice As 6 cs) sw ws, rd .i64 (.slice p nO co) (bI O), bx gc TI (IA (cts []))] w5) := LM1
              clear LM1
              have LE : Hid (Lo wa lo hi b rb hq A2 A [bx gp TP #[.pointer (some ⟨b, 0, none⟩), .pointer (some ⟨rb, 0, none⟩)], lM g (.slice As 6 cs) sw ws, rd .i64 (.slice p nO co) (bI O), bx gc TI (IA (cts [])), rv TI 1 (.slice (some ⟨w5.heap.size, 0, none⟩) 0 0) 0 (is [])] ((w5.alloc (.cells #[] TI)))) := Lib.hid (Lo.litN (X := []) (rs := [bx gp TP #[.pointer (some ⟨b, 0, none⟩), .pointer (some ⟨rb, 0, none⟩)], lM g (.slice As 6 cs) sw ws, rd .i64 (.slice p nO co) (bI O), bx gc TI (IA (cts []))]) L1.out)
              have hbo : (bI O).length = nO := by unfold bI; rw [List.length_map]; exact hO
              obtain ⟨Aa, ca, w6, hrun1, hL6⟩ := Lo.appI (X := []) (rs := [bx gp TP #[.pointer (some ⟨b, 0, none⟩), .pointer (some ⟨rb, 0, none⟩)], lM g (.slice As 6 cs) sw ws, rd .i64 (.slice p nO co) (bI O), bx gc TI (IA (cts [])), rv TI 1 (.slice (some ⟨w5.heap.size, 0, none⟩) 0 0) 0 (is [])]) (m := nO) LE.out 4 rfl (LE.out.is 2 _ rfl : RdR .i64 (w5.alloc (.cells #[] TI)) (.slice p nO co) (bI O)).slice hbo (by omega)
              rw [Nat.zero_add] at hrun1 hL6
              have L6 : Hid (Lo wa lo hi b rb hq A2 A [bx gp TP #[.pointer (some ⟨b, 0, none⟩), .pointer (some ⟨rb, 0, none⟩)], lM g (.slice As 6 cs) sw ws, rd .i64 (.slice p nO co) (bI O), bx gc TI (IA (cts [])), rv TI 1 (.slice Aa nO ca) nO (is (bI O))] w6) := Lib.hid hL6
              clear hL6 LE L1
              obtain ⟨nw, hnw⟩ : ∃ nw, ws.length = nw := ⟨_, rfl⟩
              have hbk := x_blocks (i := 1) (n := nw) L6.out rfl hnw (by omega)
              have hap : ∀ w7 Ab cb, Lo wa lo hi b rb hq A2 A [bx gp TP #[.pointer (some ⟨b, 0, none⟩), .pointer (some ⟨rb, 0, none⟩)], lM g (.slice As 6 cs) sw ws, rd .i64 (.slice p nO co) (bI O), bx gc TI (IA (cts [])), rv TI 1 (.slice Aa nO ca) nO (is (bI O)), rv TI 1 (.slice Ab nw cb) nw (is (bsI ws))] w7 → ∃ A3 c3 w8, (Builtin.append_ #[47, 47] 47 #[.slice Aa nO ca, .slice Ab nw cb]).run Try.prog w7 = .ok (.slice A3 (nO + nw) c3) w8 ∧ Lo wa lo hi b rb hq A2 A [bx gp TP #[.pointer (some ⟨b, 0, none⟩), .pointer (some ⟨rb, 0, none⟩)], lM g (.slice As 6 cs) sw ws, rd .i64 (.slice p nO co) (bI O), bx gc TI (IA (cts [])), rv TI 1 (.slice A3 (nO + nw) c3) (nO + nw) (is (bI O ++ bsI ws)), rv TI 1 (.slice Ab nw cb) nw (is (bsI ws))] w8 := fun w7 Ab cb h => by
                have hl : (bsI ws).length = nw := by unfold bsI; rw [List.length_map]; exact hnw
                have hr : RdR .i64 w7 (.slice Ab nw cb) (bsI ws) := rdr_own (T := TI) (B := 0) (by rw [hl]; exact h.is 5 _ rfl)
                exact Lo.appI (X := []) (rs := [bx gp TP #[.pointer (some ⟨b, 0, none⟩), .pointer (some ⟨rb, 0, none⟩)], lM g (.slice As 6 cs) sw ws, rd .i64 (.slice p nO co) (bI O), bx gc TI (IA (cts [])), rv TI 1 (.slice Aa nO ca) nO (is (bI O)), rv TI 1 (.slice Ab nw cb) nw (is (bsI ws))]) (m := nw) h 4 rfl hr.slice hl (by omega)
              go_upto_region 43 with (first | (at_builtin; refine wpList_append_run rfl _ _ _ rfl hrun1 (by rfl) (by rfl) ?_; clear hrun1) | (go_at_call 63; (with_reducible refine hbk.mono ?_); rintro e w7 ⟨Ab, cb, rfl, hL7⟩; obtain ⟨A3, c3, w8, hrun2, hL8⟩ := hap _ _ _ hL7) | (at_builtin; refine wpList_append_run rfl _ _ _ rfl hrun2 (by rfl) (by rfl) ?_; clear hrun2))
              obtain ⟨n3, hn3⟩ : ∃ n3, nO + nw = n3 := ⟨_, rfl⟩
              have L8 : Hid (Lo wa lo hi b rb hq A2 A [bx gp TP #[.pointer (some ⟨b, 0, none⟩), .pointer (some ⟨rb, 0, none⟩)], lM g (.slice As 6 cs) sw ws, rd .i64 (.slice p nO co) (bI O), bx gc TI (IA (cts [])), rv TI 1 (.slice A3 n3 c3) n3 (is (bI (O ++ ws.map Prod.fst ++ pre L2 0)))] w8) := Lib.hid (by
                have h9 := Lo.drop (ex := [bx gp TP #[.pointer (some ⟨b, 0, none⟩), .pointer (some ⟨rb, 0, none⟩)], lM g (.slice As 6 cs) sw ws, rd .i64 (.slice p nO co) (bI O), bx gc TI (IA (cts [])), rv TI 1 (.slice A3 (nO + nw) c3) (nO + nw) (is (bI O ++ bsI ws))]) hL8
                rw [bsI_bI, bI_app, hn3] at h9
                rw [show (O ++ ws.map Prod.fst ++ pre L2 0) = O ++ ws.map Prod.fst from List.append_nil _]
                exact h9)
              have hM0 : (O ++ ws.map Prod.fst ++ pre L2 0).length = n3 := by rw [show (O ++ ws.map Prod.fst ++ pre L2 0) = O ++ ws.map Prod.fst from List.append_nil _, List.length_append, List.length_map]; omega
              rw [hn3]
              clear hL7 hL8 hap hbk L6 hbo
              go_wp2_with fail
              go_loopw [18, 19] (fun av kv wr => ∃ (k n3 c3 : Nat) (A3 : Option Addr), k ≤ 3 ∧ kv = .int .i64 k ∧ av = .slice A3 n3 c3 ∧ n3 ≤ 12 + 6 * k ∧ Hid ((O ++ ws.map Prod.fst ++ pre L2 k).length = n3) ∧ Hid (Lo wa lo hi b rb hq A2 A [bx gp TP #[.pointer (some ⟨b, 0, none⟩), .pointer (some ⟨rb, 0, none⟩)], lM g (.slice As 6 cs) sw ws, rd .i64 (.slice p nO co) (bI O), bx gc TI (IA (cts [])), rv TI 1 (.slice A3 n3 c3) n3 (is (bI (O ++ ws.map Prod.fst ++ pre L2 k)))] wr)) (fun _ kv _ => 3 - (intOf kv).toNat)
              case atStart => exact ⟨0, n3, c3, A3, by omega, rfl, rfl, by omega, Lib.hid hM0, L8⟩
              case round =>
                clear L8 hM0 hn3
                obtain ⟨k, n3, c3, A3, hk3, rfl, rfl, hn36, HM3, L0⟩ := hrel
                by_cases hlk : k < 3
                · have hlkI : (k : Int) < 3 := by omega
                  rename_i Q'z1 hz1 L1z1 Kz1 wrz1 u2z1 kz1 A1z1 T1z1 L1z2 coz1 Kz2 hz2 Kz3 az1 wrz2 u2z2 u13z1 u14z1 u15z1 u16z1 u20z1 u21z1 u70z1 u71z1 u72z1 u73z1 u74z1 u75z1 u76z1 u77z1 u78z1 u79z1 u80z1 u81z1 u82z1 u83z1 u84z1 u85z1 u86z1 u87z1 u88z1 u89z1 u90z1 u91z1 u92z1 u93z1 u94z1 u95z1 u96z1 u97z1 u98z1 u99z1 u100z1 u101z1 u102z1 u103z1 u104z1 u105z1 u106z1 u107z1 u108z1 u109z1 u110z1 u111z1 u112z1 u113z1 u114z1 u115z1 u116z1 u117z1 u118z1 u119z1 u120z1 u121z1 u122z1 u123z1 u124z1 u125z1 u126z1 u127z1 u128z1 u129z1 u130z1 u131z1 u132z1 u133z1 u134z1 u135z1 u136z1 u137z1 u138z1 u139z1 u140z1 u141z1 u142z1 u143z1 u144z1 u145z1 u146z1 u147z1 u148z1 u149z1 u150z1 u151z1 u152z1 u153z1 u154z1 u155z1 u156z1 u157z1 u158z1 u159z1 u160z1 u161z1 u162z1 u163z1 u164z1 u165z1 u166z1 u167z1 u168z1 u169z1 u170z1 u171z1 u172z1 u173z1 u174z1 u175z1 u176z1 u177z1 u178z1 u179z1 u180z1 u181z1 u182z1 u183z1 u184z1 u185z1 u186z1 u187z1 u188z1 u189z1 u190z1 Oz1 wsz1 swz1 pz1 nOz1 coz2 Q'z2 az2 leftz1 leftz2 rightz1 Q'z3 Kz4 az3 u2z3 u138z2 u139z2 u140z2 u141z2 u142z2 u143z2 u144z2 u145z2 u146z2 u147z2 u148z2 u149z2 u150z2 u151z2 u152z2 u153z2 u154z2 A3z1 c3z1 Kz5 az4 n3z1
                  revert w n0 c0 hv hvI Q'z1 hz1 wa w2 A lo hi b rb HB1 gp W1 L1z1 wh w3 g As cs Kz1 wrz1 u2z1 u8 u9 u10 u41 u42 u43 u44 u45 u46 u47 u48 u49 u50 u51 u52 u53 u54 u55 u56 u57 u58 u59 u60 u61 u62 u63 u64 u65 u66 u67 u68 u69 kz1 A1z1 T1z1 L1z2 Ao coz1 Kz2 hz2 Kz3 az1 wrz2 u2z2 u12 u13z1 u14z1 u15z1 u16z1 u17 u18 u19 u20z1 u21z1 u22 u23 u70z1 u71z1 u72z1 u73z1 u74z1 u75z1 u76z1 u77z1 u78z1 u79z1 u80z1 u81z1 u82z1 u83z1 u84z1 u85z1 u86z1 u87z1 u88z1 u89z1 u90z1 u91z1 u92z1 u93z1 u94z1 u95z1 u96z1 u97z1 u98z1 u99z1 u100z1 u101z1 u102z1 u103z1 u104z1 u105z1 u106z1 u107z1 u108z1 u109z1 u110z1 u111z1 u112z1 u113z1 u114z1 u115z1 u116z1 u117z1 u118z1 u119z1 u120z1 u121z1 u122z1 u123z1 u124z1 u125z1 u126z1 u127z1 u128z1 u129z1 u130z1 u131z1 u132z1 u133z1 u134z1 u135z1 u136z1 u137z1 u138z1 u139z1 u140z1 u141z1 u142z1 u143z1 u144z1 u145z1 u146z1 u147z1 u148z1 u149z1 u150z1 u151z1 u152z1 u153z1 u154z1 u155z1 u156z1 u157z1 u158z1 u159z1 u160z1 u161z1 u162z1 u163z1 u164z1 u165z1 u166z1 u167z1 u168z1 u169z1 u170z1 u171z1 u172z1 u173z1 u174z1 u175z1 u176z1 u177z1 u178z1 u179z1 u180z1 u181z1 u182z1 u183z1 u184z1 u185z1 u186z1 u187z1 u188z1 u189z1 u190z1 i A1 T1 L1 Oz1 wsz1 swz1 pz1 nOz1 coz2 hin hlt hltI ge oe d ve Ai ni ci zi HS0 Q'z2 az2 e0 leftz1 leftz2 rightz1 Q'z3 Kz4 az3 z hz0 hz8 wc u2z3 u13 u14 u15 u16 u70 u71 u72 u73 u74 u75 u76 u77 u78 u79 u80 u81 u82 u83 u84 u85 u86 u87 u88 u89 u90 u91 u92 u93 u94 u95 u96 u97 u98 u99 u100 u101 u102 u103 u104 u105 u106 u107 u108 u109 u110 u111 u112 u113 u114 u115 u116 u117 u118 u119 u120 u121 u122 u123 u124 u125 u126 u127 u128 u129 u130 u131 u132 u133 u134 u135 u136 u137 u138z2 u139z2 u140z2 u141z2 u142z2 u143z2 u144z2 u145z2 u146z2 u147z2 u148z2 u149z2 u150z2 u151z2 u152z2 u153z2 u154z2 u155 u156 u157 u158 u159 u160 u161 u162 u163 u164 u165 u166 u167 u168 u169 u170 u171 u172 u173 u174 u175 u176 u177 u178 u179 u180 u181 u182 u183 u184 u185 u186 u187 u188 u189 u190 A2 T2 L2 O ws sw p nO co hO HM hwl hol gc w5 Aa ca w6 nw hnw w7 Ab cb A3z1 c3z1 w8 Kz5 az4 n3z1 wr u2 u20 u21 u138 u139 u140 u141 u142 u143 u144 u145 u146 u147 u148 u149 u150 u151 u152 u153 u154 k n3 c3 A3 hk3 hn36 HM3 L0 hlk hlkI
                  exact h3p.down
                · have hke : k = 3 := by omega
                  have hkeI : (3 : Int) ≤ k := by omega
                  rename_i Q'z1 hz1 L1z1 Kz1 wrz1 u2z1 kz1 A1z1 T1z1 L1z2 coz1 Kz2 hz2 Kz3 az1 wrz2 u2z2 u13z1 u14z1 u15z1 u16z1 u20z1 u21z1 u70z1 u71z1 u72z1 u73z1 u74z1 u75z1 u76z1 u77z1 u78z1 u79z1 u80z1 u81z1 u82z1 u83z1 u84z1 u85z1 u86z1 u87z1 u88z1 u89z1 u90z1 u91z1 u92z1 u93z1 u94z1 u95z1 u96z1 u97z1 u98z1 u99z1 u100z1 u101z1 u102z1 u103z1 u104z1 u105z1 u106z1 u107z1 u108z1 u109z1 u110z1 u111z1 u112z1 u113z1 u114z1 u115z1 u116z1 u117z1 u118z1 u119z1 u120z1 u121z1 u122z1 u123z1 u124z1 u125z1 u126z1 u127z1 u128z1 u129z1 u130z1 u131z1 u132z1 u133z1 u134z1 u135z1 u136z1 u137z1 u138z1 u139z1 u140z1 u141z1 u142z1 u143z1 u144z1 u145z1 u146z1 u147z1 u148z1 u149z1 u150z1 u151z1 u152z1 u153z1 u154z1 u155z1 u156z1 u157z1 u158z1 u159z1 u160z1 u161z1 u162z1 u163z1 u164z1 u165z1 u166z1 u167z1 u168z1 u169z1 u170z1 u171z1 u172z1 u173z1 u174z1 u175z1 u176z1 u177z1 u178z1 u179z1 u180z1 u181z1 u182z1 u183z1 u184z1 u185z1 u186z1 u187z1 u188z1 u189z1 u190z1 Oz1 wsz1 swz1 pz1 nOz1 coz2 Q'z2 az2 leftz1 leftz2 rightz1 Q'z3 Kz4 az3 u2z3 u138z2 u139z2 u140z2 u141z2 u142z2 u143z2 u144z2 u145z2 u146z2 u147z2 u148z2 u149z2 u150z2 u151z2 u152z2 u153z2 u154z2 A3z1 c3z1 Kz5 az4 n3z1
                  revert w n0 c0 hv hvI Q'z1 hz1 wa w2 A lo hi b rb HB1 gp W1 L1z1 wh w3 g As cs Kz1 wrz1 u2z1 u8 u9 u10 u41 u42 u43 u44 u45 u46 u47 u48 u49 u50 u51 u52 u53 u54 u55 u56 u57 u58 u59 u60 u61 u62 u63 u64 u65 u66 u67 u68 u69 kz1 A1z1 T1z1 L1z2 Ao coz1 Kz2 hz2 Kz3 az1 wrz2 u2z2 u12 u13z1 u14z1 u15z1 u16z1 u17 u18 u19 u20z1 u21z1 u22 u23 u70z1 u71z1 u72z1 u73z1 u74z1 u75z1 u76z1 u77z1 u78z1 u79z1 u80z1 u81z1 u82z1 u83z1 u84z1 u85z1 u86z1 u87z1 u88z1 u89z1 u90z1 u91z1 u92z1 u93z1 u94z1 u95z1 u96z1 u97z1 u98z1 u99z1 u100z1 u101z1 u102z1 u103z1 u104z1 u105z1 u106z1 u107z1 u108z1 u109z1 u110z1 u111z1 u112z1 u113z1 u114z1 u115z1 u116z1 u117z1 u118z1 u119z1 u120z1 u121z1 u122z1 u123z1 u124z1 u125z1 u126z1 u127z1 u128z1 u129z1 u130z1 u131z1 u132z1 u133z1 u134z1 u135z1 u136z1 u137z1 u138z1 u139z1 u140z1 u141z1 u142z1 u143z1 u144z1 u145z1 u146z1 u147z1 u148z1 u149z1 u150z1 u151z1 u152z1 u153z1 u154z1 u155z1 u156z1 u157z1 u158z1 u159z1 u160z1 u161z1 u162z1 u163z1 u164z1 u165z1 u166z1 u167z1 u168z1 u169z1 u170z1 u171z1 u172z1 u173z1 u174z1 u175z1 u176z1 u177z1 u178z1 u179z1 u180z1 u181z1 u182z1 u183z1 u184z1 u185z1 u186z1 u187z1 u188z1 u189z1 u190z1 i A1 T1 L1 Oz1 wsz1 swz1 pz1 nOz1 coz2 hin hlt hltI ge oe d ve Ai ni ci zi HS0 Q'z2 az2 e0 leftz1 leftz2 rightz1 Q'z3 Kz4 az3 z hz0 hz8 wc u2z3 u13 u14 u15 u16 u70 u71 u72 u73 u74 u75 u76 u77 u78 u79 u80 u81 u82 u83 u84 u85 u86 u87 u88 u89 u90 u91 u92 u93 u94 u95 u96 u97 u98 u99 u100 u101 u102 u103 u104 u105 u106 u107 u108 u109 u110 u111 u112 u113 u114 u115 u116 u117 u118 u119 u120 u121 u122 u123 u124 u125 u126 u127 u128 u129 u130 u131 u132 u133 u134 u135 u136 u137 u138z2 u139z2 u140z2 u141z2 u142z2 u143z2 u144z2 u145z2 u146z2 u147z2 u148z2 u149z2 u150z2 u151z2 u152z2 u153z2 u154z2 u155 u156 u157 u158 u159 u160 u161 u162 u163 u164 u165 u166 u167 u168 u169 u170 u171 u172 u173 u174 u175 u176 u177 u178 u179 u180 u181 u182 u183 u184 u185 u186 u187 u188 u189 u190 A2 T2 L2 O ws sw p nO co hO HM hwl hol gc w5 Aa ca w6 nw hnw w7 Ab cb A3z1 c3z1 w8 Kz5 az4 n3z1 wr u2 u20 u21 u138 u139 u140 u141 u142 u143 u144 u145 u146 u147 u148 u149 u150 u151 u152 u153 u154 k n3 c3 A3 hk3 hn36 HM3 L0 hlk hke hkeI
                  exact h4p.down
          · have hie : i = n0 := by omega
            have hieI : (n0 : Int) ≤ i := by omega
            have HB := Lib.hid (below_trans2 HB1.out L0.out.old)
            clear L0 HM
            go_wp2_with (go_at_call 48; (with_reducible refine (l_awake _).mono ?_); rintro e wz ⟨rfl, hbz⟩)
            have HF := Lib.hid (below_trans2 HB.out hbz)
            clear hbz
            go_ret
            exact ⟨rfl, .of_below HF.out⟩
  · have hvI : (20 : Int) < n0 := by omega
    clear hv
    go_wp2_with (go_at_call 48; (with_reducible refine (l_awake _).mono ?_); rintro e wz ⟨rfl, hbz⟩)
    have HF := Lib.hid hbz
    clear hbz
    go_ret
    exact ⟨rfl, .of_below HF.out⟩⟩
theorem piece_1 : Pc.1.1 := by
  intro w A0 n0 c0 HS0 hv hvI Q'z1 hz1 wa w2 A lo hi b rb HB1 gp W1 L1z1 wh w3 g As cs Kz1 az1 wr u2 u8 u9 u10 u41 u42 u43 u44 u45 u46 u47 u48 u49 u50 u51 u52 u53 u54 u55 u56 u57 u58 u59 u60 u61 u62 u63 u64 u65 u66 u67 u68 u69 k A1 T1 L1 Ao co hk3 HC L0 hlt hltI
  go_wp2_with fail
  go_loopw [6, 8] (fun ov iv wr => ∃ (i : Nat) (A2 : Int → List Int) (T2 : Nat → Int) (L2 : Nat → List Nat) (Ao : Option Addr) (co : Nat), i ≤ cn k ∧ iv = .int .i64 i ∧ ov = .slice Ao (pr k + i) co ∧ Hid (Ch ((pr k + i : Nat) : Int) A2 T2 L2 ∧ Dn k i L2) ∧ Hid (Lo wa lo hi b rb hq A2 A [bx gp TP #[.pointer (some ⟨b, 0, none⟩), .pointer (some ⟨rb, 0, none⟩)], lM g (.slice As 6 cs) (.slice none 0 0) [], rv TI 1 (.slice Ao (pr k + i) co) ((pr k + i)) (is (bI (List.range (pr k + i))))] wr)) (fun _ iv _ => cn k - (intOf iv).toNat)
  case atStart => exact ⟨0, A1, T1, L1, Ao, co, by omega, rfl, rfl, HC, L0⟩
  case round =>
    clear L0 HC
    obtain ⟨i, A2, T2, L2, Ap, cp, hic, rfl, rfl, HC, L0⟩ := hrel
    have hcn := cn_le k
    have hpr := pr_le k
    have hfd := fld_count
    have hix : ∀ wx : World, (Instr.index 41 (.agg #[.int .i64 3, .int .i64 2, .int .i64 1, .int .i64 0]) (.int .i64 k)).run Try.prog wx = .ok (.int .i64 (cn k : Int)) wx := idx_count hlt
    by_cases hli : i < cn k
    · have hliI : (i : Int) < (cn k : Int) := by omega
      go_upto_region 14 with ((go_at_call 49; (with_reducible refine (l_heap18 _).mono ?_); rintro e wh ⟨rfl, hbh⟩; have hLh := L0.out.below hbh))
      have L1 : Hid (Lo wa lo hi b rb hq A2 A [bx gp TP #[.pointer (some ⟨b, 0, none⟩), .pointer (some ⟨rb, 0, none⟩)], lM g (.slice As 6 cs) (.slice none 0 0) [], rv TI 1 (.slice Ap (pr k + i) cp) ((pr k + i)) (is (bI (List.range (pr k + i))))] wh) := Lib.hid (hLh)
      clear L0 hbh hLh hfd hix
      have hnp := p_new (k : Int) wh
      have LP := Lib.hid (L1.out.new TPo #[.int .i64 0, .int .i64 k, .int .u64 0, .int .i64 0, .int .i64 (-1)])
      obtain ⟨gq, hgq⟩ : ∃ gq, wh.heap.size = gq := ⟨_, rfl⟩
      obtain ⟨w4, hW4⟩ : ∃ W, wh.alloc (.cells #[.int .i64 0, .int .i64 k, .int .u64 0, .int .i64 0, .int .i64 (-1)] TPo) = W := ⟨_, rfl⟩
      rw [hW4] at LP hnp
      rw [hgq] at LP hnp
      clear hW4 hgq
      go_upto_region 15 with ((go_at_call 36; (with_reducible refine hnp.mono ?_); rintro e w5 ⟨rfl, rfl⟩))
      have hdr := l0_drop hlt hli
      obtain ⟨bk, hbk⟩ : ∃ bk, pr k + i = bk := ⟨_, rfl⟩
      obtain ⟨lt, hlt2⟩ : ∃ lt, (LmP.L0 k).drop (i + 1) = lt := ⟨_, rfl⟩
      rw [hbk, hlt2] at hdr
      have hL2 : L2 k = bk :: lt := HC.out.2.2.1.trans hdr
      have HBK := Lib.hid hbk
      have HLT := Lib.hid hlt2
      clear hbk hlt2
      obtain ⟨x, hx⟩ : ∃ x, x = T2 k * 65536 + hd (bk :: lt) := ⟨_, rfl⟩
      obtain ⟨n, hn⟩ : ∃ n, n = hd lt - 1 := ⟨_, rfl⟩
      obtain ⟨v, hvv⟩ : ∃ v, v = (T2 k + 1) * 65536 + hd lt := ⟨_, rfl⟩
      have HX := Lib.hid hx
      have HN := Lib.hid hn
      have HV := Lib.hid hvv
      have L5 : Hid (Lo wa lo hi b rb hq (pA A2 0 k v) A [bx gp TP #[.pointer (some ⟨b, 0, none⟩), .pointer (some ⟨rb, 0, none⟩)], lM g (.slice As 6 cs) (.slice none 0 0) [], rv TI 1 (.slice Ap (pr k + i) cp) ((pr k + i)) (is (bI (List.range (pr k + i)))), bx gq TPo (pBox 0 k x n bk)] w5) := LP
      clear LP hnp L1 hx hn hvv hdr
      go_wp2_with fail
      go_loopw [10] (fun jv wr => ∃ (j : Nat), j ≤ 3 ∧ jv = .int .i64 j ∧ Hid (Lo wa lo hi b rb hq (pA A2 j k v) A [bx gp TP #[.pointer (some ⟨b, 0, none⟩), .pointer (some ⟨rb, 0, none⟩)], lM g (.slice As 6 cs) (.slice none 0 0) [], rv TI 1 (.slice Ap (pr k + i) cp) ((pr k + i)) (is (bI (List.range (pr k + i)))), bx gq TPo (pBox j k x n bk)] wr)) (fun jv _ => 3 - (intOf jv).toNat)
      case atStart => exact ⟨0, by omega, rfl, L5⟩
      case round =>
        clear L5
        obtain ⟨j, hj3, rfl, L0⟩ := hrel
        by_cases hlj : j < 3
        · have hljI : (j : Int) < 3 := by omega
          have hst := lp_pop (X := []) (rs := [bx gp TP #[.pointer (some ⟨b, 0, none⟩), .pointer (some ⟨rb, 0, none⟩)], lM g (.slice As 6 cs) (.slice none 0 0) [], rv TI 1 (.slice Ap (pr k + i) cp) ((pr k + i)) (is (bI (List.range (pr k + i)))), bx gq TPo (pBox j k x n bk)]) L0.out 3 rfl hlj HC.out.1 (by omega) (by omega) hL2 HX HN HV
          have c0_0_0 : wr.cell? ⟨gp, 0, none⟩ = some (.pointer (some ⟨b, 0, none⟩)) := L0.out.c 0 0 rfl rfl
          go_wp2_with (go_at_call 38; (with_reducible refine hst.mono ?_); rintro e w7 ⟨⟨u, rfl⟩, hL⟩)
          have L1 : Hid (Lo wa lo hi b rb hq (pA A2 (j + 1) k v) A [bx gp TP #[.pointer (some ⟨b, 0, none⟩), .pointer (some ⟨rb, 0, none⟩)], lM g (.slice As 6 cs) (.slice none 0 0) [], rv TI 1 (.slice Ap (pr k + i) cp) ((pr k + i)) (is (bI (List.range (pr k + i)))), bx gq TPo (pBox (j + 1) k x n bk)] w7) := Lib.hid hL
          clear hL hst L0
          go_roundw
          case rel => exact ⟨j + 1, by omega, by go_num, L1⟩
          case measure => (first | (simp [intOf]; omega) | simp [intOf])
        · have hj : j = 3 := by omega
          have hjI : (3 : Int) ≤ j := by omega
          rw [hj] at L0
          have L1 : Hid (Lo wa lo hi b rb hq (pA A2 3 k v) A [bx gp TP #[.pointer (some ⟨b, 0, none⟩), .pointer (some ⟨rb, 0, none⟩)], lM g (.slice As 6 cs) (.slice none 0 0) [], rv TI 1 (.slice Ap (pr k + i) cp) ((pr k + i)) (is (bI (List.range (pr k + i)))), bx gq TPo #[.int .i64 3, .int .i64 k, .int .u64 x, .int .i64 n, .int .i64 bk]] wr) := L0
          clear L0 hlj hj
          have hbl := p_block gq 3 k x n bk wr (L1.out.box 3 rfl).2
          have hch := ch_pop HC.out.1 (by omega) (by omega) hL2
          rw [← HV.out] at hch
          have HC2 : Hid (Ch ((pr k + (i + 1) : Nat) : Int) (pA A2 3 k v) (up T2 k (T2 k + 1)) (up L2 k lt) ∧ Dn k (i + 1) (up L2 k lt)) := Lib.hid ⟨hch.more (by omega), by rw [← HLT.out]; exact HC.out.2.pop⟩
          clear hch HC HX HN HV
          obtain ⟨Aa, ca, w8, hrun, hL⟩ := Lo.pushI (X := []) (rs := [bx gp TP #[.pointer (some ⟨b, 0, none⟩), .pointer (some ⟨rb, 0, none⟩)], lM g (.slice As 6 cs) (.slice none 0 0) [], rv TI 1 (.slice Ap (pr k + i) cp) ((pr k + i)) (is (bI (List.range (pr k + i)))), bx gq TPo #[.int .i64 3, .int .i64 k, .int .u64 x, .int .i64 n, .int .i64 bk]]) L1.out 2 rfl (by omega) (bk : Int)
          have LN : Hid (Lo wa lo hi b rb hq (pA A2 3 k v) A [bx gp TP #[.pointer (some ⟨b, 0, none⟩), .pointer (some ⟨rb, 0, none⟩)], lM g (.slice As 6 cs) (.slice none 0 0) [], rv TI 1 (.slice Aa (pr k + i + 1) ca) ((pr k + i + 1)) (is (bI (List.range (pr k + i + 1))))] w8) := Lib.hid (by
            have e : bI (List.range (pr k + i)) ++ [(bk : Int)] = bI (List.range (pr k + i + 1)) := by rw [bI_push, ← HBK.out, ← List.range_succ]
            rw [e] at hL
            exact Lo.drop (ex2 := [bx gq TPo #[.int .i64 3, .int .i64 k, .int .u64 x, .int .i64 n, .int .i64 bk]]) hL)
          clear hL L1
          go_wp2_with (first | (go_at_call 41; (with_reducible refine hbl.mono ?_); rintro e w9 ⟨rfl, rfl⟩) | (at_builtin; refine wpList_append_run rfl _ _ _ rfl hrun (by rfl) (by rfl) ?_; clear hrun))
          go_roundw
          case rel => exact ⟨i + 1, _, _, _, Aa, ca, by omega, by go_num, rfl, HC2, LN⟩
          case measure => (first | (simp [intOf]; omega) | simp [intOf])
    · have hie : i = cn k := by omega
      have hieI : (cn k : Int) ≤ i := by omega
      have hpn := pr_next hlt
      have hpe : pr k + i = pr (k + 1) := by omega
      have HC2 : Hid (Ch (pr (k + 1) : Int) A2 T2 L2 ∧ Dn (k + 1) 0 L2) := Lib.hid (by
        have h9 := HC.out
        rw [hpe, hie] at h9
        exact ⟨h9.1, h9.2.next hlt⟩)
      clear HC
      go_wp2_with (first | (go_at_call 49; (with_reducible refine (l_heap18 _).mono ?_); rintro e wh ⟨rfl, hbh⟩; have hLh := L0.out.below hbh))
      have L1 : Hid (Lo wa lo hi b rb hq A2 A [bx gp TP #[.pointer (some ⟨b, 0, none⟩), .pointer (some ⟨rb, 0, none⟩)], lM g (.slice As 6 cs) (.slice none 0 0) [], rv TI 1 (.slice Ap (pr (k + 1)) cp) ((pr (k + 1))) (is (bI (List.range (pr (k + 1)))))] wh) := Lib.hid (by rw [hpe] at hLh; exact hLh)
      clear hLh hbh L0 hfd hix
      go_roundw
      case rel => exact ⟨k + 1, A2, T2, L2, Ap, cp, by omega, by go_num, by first | rfl | rw [hpe], HC2, L1⟩
      case measure => (first | (simp [intOf]; omega) | simp [intOf])
theorem piece_2 : Pc.1.2.1 := by
  intro w n0 c0 hv hvI Q'z1 hz1 wa w2 A lo hi b rb HB1 gp W1 L1z1 wh w3 g As cs Kz1 wrz1 u2z1 u8 u9 u10 u41 u42 u43 u44 u45 u46 u47 u48 u49 u50 u51 u52 u53 u54 u55 u56 u57 u58 u59 u60 u61 u62 u63 u64 u65 u66 u67 u68 u69 k A1z1 T1z1 L1z2 Ao coz1 Kz2 hz2 Kz3 az1 wr u2 u12 u13 u14 u15 u16 u17 u18 u19 u20 u21 u22 u23 u70 u71 u72 u73 u74 u75 u76 u77 u78 u79 u80 u81 u82 u83 u84 u85 u86 u87 u88 u89 u90 u91 u92 u93 u94 u95 u96 u97 u98 u99 u100 u101 u102 u103 u104 u105 u106 u107 u108 u109 u110 u111 u112 u113 u114 u115 u116 u117 u118 u119 u120 u121 u122 u123 u124 u125 u126 u127 u128 u129 u130 u131 u132 u133 u134 u135 u136 u137 u138 u139 u140 u141 u142 u143 u144 u145 u146 u147 u148 u149 u150 u151 u152 u153 u154 u155 u156 u157 u158 u159 u160 u161 u162 u163 u164 u165 u166 u167 u168 u169 u170 u171 u172 u173 u174 u175 u176 u177 u178 u179 u180 u181 u182 u183 u184 u185 u186 u187 u188 u189 u190 i A1 T1 L1 O ws sw p nO co hin hO HM L0 hlt hltI ge oe d ve Ai ni ci zi HS0 Q'z2 az2 e0 leftz1 leftz2 rightz1 Q'z3 Kz4 az3 z hz0 hz8 Kz5 az4 hwl hol Jz1 K'z1 az5 az6
  cases d with
  | true =>
    have htk := HM.out.tk (z := z) (by omega)
    have hdr := x_drain (i := 1) (z := z) L0.out rfl (by omega) HM.out.wok
    go_upto_region 28 with ((go_at_call 55; (with_reducible refine hdr.mono ?_); rintro e w6 ⟨gd, vd, ps, s3, rfl, hps, hL⟩))
    have L1x : Hid (Lo wa lo hi b rb hq A1 A [bx gp TP #[.pointer (some ⟨b, 0, none⟩), .pointer (some ⟨rb, 0, none⟩)], lM g (.slice As 6 cs) s3 ((kp z ws)), rd .i64 (.slice p nO co) (bI O), dM gd vd ps 0 0] w6) := Lib.hid hL
    clear hL hdr L0
    obtain ⟨bs, hbs⟩ : ∃ bs, (tk z ws).map Prod.fst = bs := ⟨_, rfl⟩
    have HBS := Lib.hid hbs
    rw [hbs] at hps htk
    have hpl : ps.length = bs.length := by have := congrArg List.length hps; simpa using this
    have HP0 : Hid (Pd (10 + 30 * (i : Int) + ((0 : Nat) : Int)) A1 T1 L1 (ps.map Prod.snd) 0 0 ∧ pend L1 (ps.map Prod.snd) = pend L1 bs ∧ on bs.length ps 0 = 0 ∧ ps.length ≤ bs.length) := Lib.hid (by
      rw [hps]
      exact ⟨by have := htk.1; rwa [show 10 + 30 * (i : Int) + ((0 : Nat) : Int) = 10 + 30 * (i : Int) by omega], rfl, by unfold on; omega, by omega⟩)
    have hb6 : bs.length ≤ 6 := htk.2
    clear htk hbs
    go_wp2_with fail
    go_loopw [14] (fun jv wr => ∃ (j : Nat) (A2 : Int → List Int) (T2 : Nat → Int) (L2 : Nat → List Nat) (v2 : Value) (p2 : PL) (st : Nat) (x : Int), jv = .int .i64 j ∧ Hid (Pd (10 + 30 * (i : Int) + (j : Int)) A2 T2 L2 (p2.map Prod.snd) st x ∧ pend L2 (p2.map Prod.snd) = pend L1 bs ∧ on bs.length p2 st = j ∧ p2.length ≤ bs.length) ∧ Hid (Lo wa lo hi b rb hq A2 A [bx gp TP #[.pointer (some ⟨b, 0, none⟩), .pointer (some ⟨rb, 0, none⟩)], lM g (.slice As 6 cs) s3 ((kp z ws)), rd .i64 (.slice p nO co) (bI O), dM gd v2 p2 st x] wr)) (fun jv _ => 30 - (intOf jv).toNat)
    case atStart => exact ⟨0, A1, T1, L1, vd, ps, 0, 0, rfl, HP0, L1x⟩
    case round =>
      clear L1x HP0 hps hpl
      obtain ⟨j, A2, T2, L2, v2, p2, st, x, rfl, HP, L0⟩ := hrel
      have hj17 : p2 ≠ [] → j ≤ 17 := fun hn => by
        have h1 := HP.out.2.2.1; have h2 := HP.out.1.dk.st2; have h3 := HP.out.2.2.2
        cases p2 with
        | nil => exact absurd rfl hn
        | cons a t => unfold on at h1; simp only [List.length_cons] at h1 h3; omega
      have hj18 : j ≤ 18 := by have h1 := HP.out.2.2.1; have h2 := HP.out.1.dk.st2; have h3 := HP.out.1.dk.nil; unfold on at h1; by_cases hn : p2 = []; have h4 := h3 (by rw [hn]; rfl); omega; have := hj17 hn; omega
      by_cases hn : p2 = []
      · have hdn := dx_done (i := 3) (D := true) L0.out rfl (Lib.hid (by rw [hn]; rfl))
        have HM2 : Hid (MI (10 + 30 * (i : Int) + 30) A2 T2 L2 O (kp z ws)) := Lib.hid (by
          obtain ⟨h1, h2, h3, h4⟩ := HP.out
          rw [hn] at h2
          have h2 : L2 = pend L1 bs := h2
          have hc := h1.ch
          rw [h2, ← HBS.out] at hc
          rw [h2, ← HBS.out]
          exact (HM.out.after hc).more (by omega))
        have LD : Hid (Lo wa lo hi b rb hq A2 A [bx gp TP #[.pointer (some ⟨b, 0, none⟩), .pointer (some ⟨rb, 0, none⟩)], lM g (.slice As 6 cs) s3 ((kp z ws)), rd .i64 (.slice p nO co) (bI O)] wr) := Lib.hid (Lo.drop (ex := [bx gp TP #[.pointer (some ⟨b, 0, none⟩), .pointer (some ⟨rb, 0, none⟩)], lM g (.slice As 6 cs) s3 ((kp z ws)), rd .i64 (.slice p nO co) (bI O)]) L0.out)
        have hkl := kp_len z ws
        obtain ⟨nv, hnv⟩ : ∃ nv, (kp z ws).length = nv := ⟨_, rfl⟩
        have hvs := x_versions (i := 1) (n := nv) LD.out rfl hnv (by omega)
        go_upto_region 33 with (first | (go_at_call 58; (with_reducible refine hdn.mono ?_); rintro e w7 ⟨rfl, rfl⟩) | (go_at_call 64; (with_reducible refine hvs.mono ?_); rintro e w8 ⟨Av, cv, rfl, hL⟩))
        have LV : Hid (Lo wa lo hi b rb hq A2 A [bx gp TP #[.pointer (some ⟨b, 0, none⟩), .pointer (some ⟨rb, 0, none⟩)], lM g (.slice As 6 cs) s3 ((kp z ws)), rd .i64 (.slice p nO co) (bI O), rv TI 1 (.slice Av nv cv) nv (is (vsI (kp z ws)))] w8) := Lib.hid hL
        clear hL hvs hdn LD HP L0 HM
        go_wp2_with fail
        go_loopw [16] (fun kv wr => ∃ (k : Nat), k ≤ nv ∧ kv = .int .i64 k ∧ Hid (Lo wa lo hi b rb hq A2 A [bx gp TP #[.pointer (some ⟨b, 0, none⟩), .pointer (some ⟨rb, 0, none⟩)], lM g (.slice As 6 cs) s3 ((kp z ws)), rd .i64 (.slice p nO co) (bI O), rv TI 1 (.slice Av nv cv) nv (is (vsI (kp z ws)))] wr)) (fun kv _ => nv - (intOf kv).toNat)
        case atStart => exact ⟨0, by omega, rfl, LV⟩
        case round =>
          clear LV
          obtain ⟨k, hkn, rfl, L0⟩ := hrel
          by_cases hlk : k < nv
          · have hlkI : (k : Int) < nv := by omega
            obtain ⟨gv, cv2, he, hcv⟩ := rv_cells (L0.out.is 3 _ rfl : (rv TI 1 (.slice Av nv cv) nv (is (vsI (kp z ws)))).is wr) (by omega)
            injection he with he1 he2 he3
            subst he1
            clear he2 he3
            have hvl : k < (vsI (kp z ws)).length := by unfold vsI; rw [List.length_map, hnv]; exact hlk
            obtain ⟨y, hy⟩ : ∃ y, (vsI (kp z ws))[k]? = some y := ⟨_, List.getElem?_eq_getElem hvl⟩
            have hgt := kp_gt hy
            have r0 : wr.cell? ⟨gv, k, none⟩ = some (.int .i64 y) := hcv k _ (by rw [List.getElem?_map, hy]; rfl)
            clear hcv hy hvl
            go_wp2_with fail
            go_roundw
            case rel => exact ⟨k + 1, by omega, by go_num, L0⟩
            case measure => (first | (simp [intOf]; omega) | simp [intOf])
          · have hke : k = nv := by omega
            have hkeI : (nv : Int) ≤ k := by omega
            have LF : Hid (Lo wa lo hi b rb hq A2 A [bx gp TP #[.pointer (some ⟨b, 0, none⟩), .pointer (some ⟨rb, 0, none⟩)], lM g (.slice As 6 cs) s3 ((kp z ws)), rd .i64 (.slice p nO co) (bI O)] wr) := Lib.hid (Lo.drop (ex := [bx gp TP #[.pointer (some ⟨b, 0, none⟩), .pointer (some ⟨rb, 0, none⟩)], lM g (.slice As 6 cs) s3 ((kp z ws)), rd .i64 (.slice p nO co) (bI O)]) L0.out)
            clear L0
            go_wp2_with fail
            go_meet
            exact ⟨A2, T2, L2, O, kp z ws, s3, p, nO, co, rfl, hO, HM2, LF⟩
      · have hdn := dx_done (i := 3) (D := false) L0.out rfl (Lib.hid (decide_eq_false (fun e => hn (List.eq_nil_of_length_eq_zero e))))
        have hjj := hj17 hn
        have hj30 : (j : Int) < 30 := by omega
        obtain ⟨k1, k2, k3, k4, k5, d, hac⟩ := dC_ex A2 (p2.map Prod.snd) st x
        obtain ⟨A', hA'⟩ : ∃ A', dA A2 (p2.map Prod.snd) st x = A' := ⟨_, rfl⟩
        have hst := dx_step (i := 3) L0.out rfl HP.out.1.dk (Lib.hid hac) (Lib.hid hA')
        have HP2 : ∃ T3, Hid (Pd (10 + 30 * (i : Int) + ((j + 1 : Nat) : Int)) A' T3 (dL L2 (p2.map Prod.snd) st) ((dB p2 st).map Prod.snd) (dS p2 st) (dX A2 (p2.map Prod.snd) st x) ∧ pend (dL L2 (p2.map Prod.snd) st) ((dB p2 st).map Prod.snd) = pend L1 bs ∧ on bs.length (dB p2 st) (dS p2 st) = j + 1 ∧ (dB p2 st).length ≤ bs.length) := by
          obtain ⟨hp1, hp2, hp3, hp4⟩ := HP.out
          obtain ⟨T3, hp5⟩ := hp1.next (by omega)
          rw [hA', dB_map, dS_map] at hp5
          rw [show 10 + 30 * (i : Int) + (j : Int) + 1 = 10 + 30 * (i : Int) + ((j + 1 : Nat) : Int) by omega] at hp5
          refine ⟨T3, Lib.hid ⟨hp5, ?_, ?_, ?_⟩⟩
          · rw [← dB_map, pend_next]; exact hp2
          · rw [(on_next hn hp4 hp1.dk.st2).1, hp3]
          · exact (on_next hn hp4 hp1.dk.st2).2
        obtain ⟨T3, HP2⟩ := HP2
        clear hac hA'
        have c0_0_0 : wr.cell? ⟨gp, 0, none⟩ = some (.pointer (some ⟨b, 0, none⟩)) := L0.out.c 0 0 rfl rfl
        go_wp2_with (first | (go_at_call 58; (with_reducible refine hdn.mono ?_); rintro e w7 ⟨rfl, rfl⟩) | (go_at_call 61; (with_reducible refine hst.mono ?_); rintro e w7 ⟨rfl, v3, hL⟩))
        have L1 : Hid (Lo wa lo hi b rb hq A' A [bx gp TP #[.pointer (some ⟨b, 0, none⟩), .pointer (some ⟨rb, 0, none⟩)], lM g (.slice As 6 cs) s3 ((kp z ws)), rd .i64 (.slice p nO co) (bI O), dM gd v3 (dB p2 st) (dS p2 st) (dX A2 (p2.map Prod.snd) st x)] w7) := Lib.hid hL
        clear hL hst HP L0
        go_roundw
        case rel => exact ⟨j + 1, A', T3, _, v3, _, _, _, by go_num, HP2, L1⟩
        case measure => (first | (simp [intOf]; omega) | simp [intOf])
  | false =>
    cases O with
    | nil =>
      obtain rfl : 0 = nO := hO
      go_wp2_with fail
      go_meet
      exact ⟨A1, T1, L1, [], ws, sw, p, 0, co, rfl, rfl, Lib.hid (HM.out.more (by omega)), L0⟩
    | cons o O =>
      have hn1 : 1 ≤ nO := by rw [← hO]; simp
      have hnI : (0 : Int) < (nO : Int) := by omega
      have ho6 := HM.out.oin o (List.mem_cons_self ..)
      have r1 : RdR .i64 wr (.slice p nO co) (bI (o :: O)) := L0.out.is 2 _ rfl
      obtain ⟨gl, ol, c9, he, hc1, _, _⟩ := r1.cell (by simp [bI])
      injection he with he1 he2 he3
      subst he1
      subst he3
      have hnc : nO ≤ co := by rw [he2]; exact hc1
      clear hc1
      have hs1 := fun wx => cut_run (ts := 47) Try.underlying47 (fun wx => by kernel_rfl) (some ⟨gl, ol, none⟩) nO co 1 (by omega) wx
      obtain ⟨p1, hsl, hpb, htl⟩ := tail_run (K := .i64) Try.underlying47 (fun wx => by kernel_rfl) gl ol nO co hn1 hnc
      have had := x_add (i := 1) (z := z) (m := 1) (cx := co) (p := some ⟨gl, ol, none⟩) (xs := [(o : Int)]) L0.out rfl (rdb_of (j := 2) rfl (by decide) (fun W h => rdr_take (m := 1) h hn1)) (by omega)
      rw [adds_one ho6] at had
      have HM2 : Hid (MI (10 + 30 * (i : Int) + 30) A1 T1 L1 O (ws ++ [(o, z)])) := Lib.hid (HM.out.add.more (by omega))
      have hO2 : O.length = nO - 1 := by rw [← hO]; simp
      clear he2 r1
      go_upto_region 40 with ((go_at_call 52; (with_reducible refine had.mono ?_); rintro e w6 ⟨rfl, sw2, hL⟩))
      have LF : Hid (Lo wa lo hi b rb hq A1 A [bx gp TP #[.pointer (some ⟨b, 0, none⟩), .pointer (some ⟨rb, 0, none⟩)], lM g (.slice As 6 cs) sw2 ((ws ++ [(o, z)])), rd .i64 (.slice p1 (nO - 1) (co - 1)) (bI O)] w6) := Lib.hid (Lo.see hL 2 rfl (htl _ _ _ (Lo.is hL 2 _ rfl)) (fun x hx => mem_blk (v := .slice (some ⟨gl, ol, none⟩) nO co) (hpb.symm.trans (blk_mem hx))))
      clear hL had L0 htl hpb
      go_wp2_with fail
      go_meet
      exact ⟨A1, T1, L1, O, _, sw2, p1, nO - 1, co - 1, rfl, hO2, HM2, LF⟩
theorem piece_3 : Pc.1.2.2.1 := by
  intro w n0 c0 hv hvI Q'z1 hz1 wa w2 A lo hi b rb HB1 gp W1 L1z1 wh w3 g As cs Kz1 wrz1 u2z1 u8 u9 u10 u41 u42 u43 u44 u45 u46 u47 u48 u49 u50 u51 u52 u53 u54 u55 u56 u57 u58 u59 u60 u61 u62 u63 u64 u65 u66 u67 u68 u69 kz1 A1z1 T1z1 L1z2 Ao coz1 Kz2 hz2 Kz3 az1 wrz2 u2z2 u12 u13z1 u14z1 u15z1 u16z1 u17 u18 u19 u20z1 u21z1 u22 u23 u70z1 u71z1 u72z1 u73z1 u74z1 u75z1 u76z1 u77z1 u78z1 u79z1 u80z1 u81z1 u82z1 u83z1 u84z1 u85z1 u86z1 u87z1 u88z1 u89z1 u90z1 u91z1 u92z1 u93z1 u94z1 u95z1 u96z1 u97z1 u98z1 u99z1 u100z1 u101z1 u102z1 u103z1 u104z1 u105z1 u106z1 u107z1 u108z1 u109z1 u110z1 u111z1 u112z1 u113z1 u114z1 u115z1 u116z1 u117z1 u118z1 u119z1 u120z1 u121z1 u122z1 u123z1 u124z1 u125z1 u126z1 u127z1 u128z1 u129z1 u130z1 u131z1 u132z1 u133z1 u134z1 u135z1 u136z1 u137z1 u138z1 u139z1 u140z1 u141z1 u142z1 u143z1 u144z1 u145z1 u146z1 u147z1 u148z1 u149z1 u150z1 u151z1 u152z1 u153z1 u154z1 u155z1 u156z1 u157z1 u158z1 u159z1 u160z1 u161z1 u162z1 u163z1 u164z1 u165z1 u166z1 u167z1 u168z1 u169z1 u170z1 u171z1 u172z1 u173z1 u174z1 u175z1 u176z1 u177z1 u178z1 u179z1 u180z1 u181z1 u182z1 u183z1 u184z1 u185z1 u186z1 u187z1 u188z1 u189z1 u190z1 i A1 T1 L1 Oz1 wsz1 swz1 pz1 nOz1 coz2 hin hlt hltI ge oe d ve Ai ni ci zi HS0 Q'z2 az2 e0 leftz1 leftz2 rightz1 Q'z3 Kz4 az3 z hz0 hz8 wc u2z3 u13 u14 u15 u16 u70 u71 u72 u73 u74 u75 u76 u77 u78 u79 u80 u81 u82 u83 u84 u85 u86 u87 u88 u89 u90 u91 u92 u93 u94 u95 u96 u97 u98 u99 u100 u101 u102 u103 u104 u105 u106 u107 u108 u109 u110 u111 u112 u113 u114 u115 u116 u117 u118 u119 u120 u121 u122 u123 u124 u125 u126 u127 u128 u129 u130 u131 u132 u133 u134 u135 u136 u137 u138z2 u139z2 u140z2 u141z2 u142z2 u143z2 u144z2 u145z2 u146z2 u147z2 u148z2 u149z2 u150z2 u151z2 u152z2 u153z2 u154z2 u155 u156 u157 u158 u159 u160 u161 u162 u163 u164 u165 u166 u167 u168 u169 u170 u171 u172 u173 u174 u175 u176 u177 u178 u179 u180 u181 u182 u183 u184 u185 u186 u187 u188 u189 u190 A2 T2 L2 O ws sw p nO co hO HM hwl hol gc w5 Aa ca w6 nw hnw w7 Ab cb A3z1 c3z1 w8 Kz5 az4 n3z1 wr u2 u20 u21 u138 u139 u140 u141 u142 u143 u144 u145 u146 u147 u148 u149 u150 u151 u152 u153 u154 k n3 c3 A3 hk3 hn36 HM3 L0 hlk hlkI
  have him := lo_imageH L0.out HM.out.ch.l3 HM.out.ch.l4 HM.out.ch.l5
  have c0_0_0 : wr.cell? ⟨gp, 0, none⟩ = some (.pointer (some ⟨b, 0, none⟩)) := L0.out.c 0 0 rfl rfl
  have hls : ∀ wx c t s vd vo vl vh vn, Lo wa lo hi b rb hq A2 A [bx gp TP #[.pointer (some ⟨b, 0, none⟩), .pointer (some ⟨rb, 0, none⟩)], lM g (.slice As 6 cs) sw ws, rd .i64 (.slice p nO co) (bI O), bx gc TI (IA (cts [])), rv TI 1 (.slice A3 n3 c3) n3 (is (bI (O ++ ws.map Prod.fst ++ pre L2 k)))] wx → (∃ p n c, vd = .slice p n c) → (∃ p n c, vo = .slice p n c) → (∃ p n c, vl = .slice p n c) → Rd wx vh (A2 7) → Rd wx vn (A2 8) → Calls Try.prog 45 #[imgV vd vo c t s vl vh vn, .int .i64 k] wx _ := fun wx c t s vd vo vl vh vn h h1 h2 h3 hH hN => lo_list h HM.out.ch (by omega) h1 h2 h3 hH hN k (by omega) (HM.out.l1 (by omega))
  have hll := HM.out.ll (c := k) (by omega)
  obtain ⟨nl, hnl⟩ : ∃ nl, (L2 k).length = nl := ⟨_, rfl⟩
  have hap : ∀ w7 Ab cb, Lo wa lo hi b rb hq A2 A [bx gp TP #[.pointer (some ⟨b, 0, none⟩), .pointer (some ⟨rb, 0, none⟩)], lM g (.slice As 6 cs) sw ws, rd .i64 (.slice p nO co) (bI O), bx gc TI (IA (cts [])), rv TI 1 (.slice A3 n3 c3) n3 (is (bI (O ++ ws.map Prod.fst ++ pre L2 k)))] w7 → RdS .i64 w7 (.slice Ab nl cb) (bI (L2 k)) → ∃ A4 c4 w8, (Builtin.append_ #[47, 47] 47 #[.slice A3 n3 c3, .slice Ab nl cb]).run Try.prog w7 = .ok (.slice A4 (n3 + nl) c4) w8 ∧ Lo wa lo hi b rb hq A2 A [bx gp TP #[.pointer (some ⟨b, 0, none⟩), .pointer (some ⟨rb, 0, none⟩)], lM g (.slice As 6 cs) sw ws, rd .i64 (.slice p nO co) (bI O), bx gc TI (IA (cts [])), rv TI 1 (.slice A4 (n3 + nl) c4) (n3 + nl) (is (bI (O ++ ws.map Prod.fst ++ pre L2 k) ++ bI (L2 k)))] w8 := fun w7 Ab cb h hr => Lo.appI (X := []) (rs := [bx gp TP #[.pointer (some ⟨b, 0, none⟩), .pointer (some ⟨rb, 0, none⟩)], lM g (.slice As 6 cs) sw ws, rd .i64 (.slice p nO co) (bI O), bx gc TI (IA (cts [])), rv TI 1 (.slice A3 n3 c3) n3 (is (bI (O ++ ws.map Prod.fst ++ pre L2 k)))]) (m := nl) h 4 rfl hr (by unfold bI; rw [List.length_map]; exact hnl) (by omega)
  go_wp2_with (first | (go_at_call 17; (with_reducible refine him.mono ?_); rintro e y7 ⟨ic, it, is9, vd, vo, vl, vh, vn, rfl, h1, h2, h3, hH, hN, hL7⟩; have hls := hls _ ic it is9 _ _ _ _ _ hL7 h1 h2 h3 hH hN; rw [hnl] at hls) | (go_at_call 45; (with_reducible refine hls.mono ?_); rintro e y8 ⟨Ab, cb, rfl, hr8, hL8⟩; obtain ⟨A4, c4, w9, hrun, hL9⟩ := hap _ _ _ hL8 hr8) | (at_builtin; refine wpList_append_run rfl _ _ _ rfl hrun (by rfl) (by rfl) ?_; clear hrun))
  have hpk1 : O ++ ws.map Prod.fst ++ pre L2 k ++ L2 k = O ++ ws.map Prod.fst ++ pre L2 (k + 1) := List.append_assoc _ _ _
  have LN : Hid (Lo wa lo hi b rb hq A2 A [bx gp TP #[.pointer (some ⟨b, 0, none⟩), .pointer (some ⟨rb, 0, none⟩)], lM g (.slice As 6 cs) sw ws, rd .i64 (.slice p nO co) (bI O), bx gc TI (IA (cts [])), rv TI 1 (.slice A4 (n3 + nl) c4) ((n3 + nl)) (is (bI (O ++ ws.map Prod.fst ++ pre L2 (k + 1))))] w9) := Lib.hid (by rw [bI_app, hpk1] at hL9; exact hL9)
  have HM4 : Hid ((O ++ ws.map Prod.fst ++ pre L2 (k + 1)).length = n3 + nl) := Lib.hid (by rw [← hpk1, List.length_append, HM3.out, hnl])
  clear hL9 hL8 hL7 hH hN hr8 L0 hpk1 HM3
  go_roundw
  case rel => exact ⟨k + 1, n3 + nl, c4, A4, by omega, by go_num, rfl, by omega, HM4, LN⟩
  case measure => (first | (simp [intOf]; omega) | simp [intOf])
theorem piece_4 : Pc.1.2.2.2 := by
  intro w n0 c0 hv hvI Q'z1 hz1 wa w2 A lo hi b rb HB1 gp W1 L1z1 wh w3 g As cs Kz1 wrz1 u2z1 u8 u9 u10 u41 u42 u43 u44 u45 u46 u47 u48 u49 u50 u51 u52 u53 u54 u55 u56 u57 u58 u59 u60 u61 u62 u63 u64 u65 u66 u67 u68 u69 kz1 A1z1 T1z1 L1z2 Ao coz1 Kz2 hz2 Kz3 az1 wrz2 u2z2 u12 u13z1 u14z1 u15z1 u16z1 u17 u18 u19 u20z1 u21z1 u22 u23 u70z1 u71z1 u72z1 u73z1 u74z1 u75z1 u76z1 u77z1 u78z1 u79z1 u80z1 u81z1 u82z1 u83z1 u84z1 u85z1 u86z1 u87z1 u88z1 u89z1 u90z1 u91z1 u92z1 u93z1 u94z1 u95z1 u96z1 u97z1 u98z1 u99z1 u100z1 u101z1 u102z1 u103z1 u104z1 u105z1 u106z1 u107z1 u108z1 u109z1 u110z1 u111z1 u112z1 u113z1 u114z1 u115z1 u116z1 u117z1 u118z1 u119z1 u120z1 u121z1 u122z1 u123z1 u124z1 u125z1 u126z1 u127z1 u128z1 u129z1 u130z1 u131z1 u132z1 u133z1 u134z1 u135z1 u136z1 u137z1 u138z1 u139z1 u140z1 u141z1 u142z1 u143z1 u144z1 u145z1 u146z1 u147z1 u148z1 u149z1 u150z1 u151z1 u152z1 u153z1 u154z1 u155z1 u156z1 u157z1 u158z1 u159z1 u160z1 u161z1 u162z1 u163z1 u164z1 u165z1 u166z1 u167z1 u168z1 u169z1 u170z1 u171z1 u172z1 u173z1 u174z1 u175z1 u176z1 u177z1 u178z1 u179z1 u180z1 u181z1 u182z1 u183z1 u184z1 u185z1 u186z1 u187z1 u188z1 u189z1 u190z1 i A1 T1 L1 Oz1 wsz1 swz1 pz1 nOz1 coz2 hin hlt hltI ge oe d ve Ai ni ci zi HS0 Q'z2 az2 e0 leftz1 leftz2 rightz1 Q'z3 Kz4 az3 z hz0 hz8 wc u2z3 u13 u14 u15 u16 u70 u71 u72 u73 u74 u75 u76 u77 u78 u79 u80 u81 u82 u83 u84 u85 u86 u87 u88 u89 u90 u91 u92 u93 u94 u95 u96 u97 u98 u99 u100 u101 u102 u103 u104 u105 u106 u107 u108 u109 u110 u111 u112 u113 u114 u115 u116 u117 u118 u119 u120 u121 u122 u123 u124 u125 u126 u127 u128 u129 u130 u131 u132 u133 u134 u135 u136 u137 u138z2 u139z2 u140z2 u141z2 u142z2 u143z2 u144z2 u145z2 u146z2 u147z2 u148z2 u149z2 u150z2 u151z2 u152z2 u153z2 u154z2 u155 u156 u157 u158 u159 u160 u161 u162 u163 u164 u165 u166 u167 u168 u169 u170 u171 u172 u173 u174 u175 u176 u177 u178 u179 u180 u181 u182 u183 u184 u185 u186 u187 u188 u189 u190 A2 T2 L2 O ws sw p nO co hO HM hwl hol gc w5 Aa ca w6 nw hnw w7 Ab cb A3z1 c3z1 w8 Kz5 az4 n3z1 wr u2 u20 u21 u138 u139 u140 u141 u142 u143 u144 u145 u146 u147 u148 u149 u150 u151 u152 u153 u154 k n3 c3 A3 hk3 hn36 HM3 L0 hlk hke hkeI
  rw [hke] at L0 HM3
  have hall := HM.out.all
  have hcnt : ∀ b, b < 6 → (O ++ ws.map Prod.fst ++ pre L2 3).count b = 1 := fun b hb => HM.out.cnt hb
  obtain ⟨M, hM⟩ : ∃ M, O ++ ws.map Prod.fst ++ pre L2 3 = M := ⟨_, rfl⟩
  rw [hM] at L0 HM3 hall hcnt
  have HAL := Lib.hid hall
  have HCN := Lib.hid hcnt
  clear hall hcnt hM hlk hke
  have L1 : Hid (Lo wa lo hi b rb hq A2 A [bx gp TP #[.pointer (some ⟨b, 0, none⟩), .pointer (some ⟨rb, 0, none⟩)], lM g (.slice As 6 cs) sw ws, rd .i64 (.slice p nO co) (bI O), bx gc TI (IA (cts [])), rv TI 1 (.slice A3 n3 c3) n3 (is (bI M))] wr) := L0
  clear L0
  go_wp2_with fail
  go_loopw [22] (fun jv wr => ∃ (j : Nat), j ≤ n3 ∧ jv = .int .i64 j ∧ Hid (Lo wa lo hi b rb hq A2 A [bx gp TP #[.pointer (some ⟨b, 0, none⟩), .pointer (some ⟨rb, 0, none⟩)], lM g (.slice As 6 cs) sw ws, rd .i64 (.slice p nO co) (bI O), bx gc TI (IA (cts (M.take j))), rv TI 1 (.slice A3 n3 c3) n3 (is (bI M))] wr)) (fun jv _ => n3 - (intOf jv).toNat)
  case atStart => exact ⟨0, by omega, rfl, L1⟩
  case round =>
    clear L1
    obtain ⟨j, hjn, rfl, L0⟩ := hrel
    by_cases hlj : j < n3
    · have hljI : (j : Int) < n3 := by omega
      obtain ⟨ga, ca3, he, hca⟩ := rv_cells (L0.out.is 4 _ rfl : (rv TI 1 (.slice A3 n3 c3) n3 (is (bI M))).is wr) (by omega)
      injection he with he1 he2 he3
      subst he1
      clear he2 he3
      obtain ⟨bk, hbk⟩ : ∃ bk, M[j]? = some bk := ⟨_, List.getElem?_eq_getElem (by rw [HM3.out]; exact hlj)⟩
      have hb6 := HAL.out bk (List.mem_of_getElem? hbk)
      have hb6I : (bk : Int) < 6 := by omega
      have r0 : wr.cell? ⟨ga, j, none⟩ = some (.int .i64 bk) := hca j _ (by rw [List.getElem?_map, bI_at hbk]; rfl)
      clear hca
      have r1 : wr.cell? ⟨gc, bk, none⟩ = some (.int .i64 ((M.take j).count bk : Nat)) := ((L0.out.box 3 rfl).2.cell bk).trans (cts_at hb6)
      have z1 : wr.frozen? ⟨gc, bk, none⟩ = false := L0.out.z 3 bk rfl
      obtain ⟨ct, hct⟩ : ∃ ct, (M.take j).count bk = ct := ⟨_, rfl⟩
      have hcl : ct ≤ 100 := hct ▸ ct_le hlj hn36 hk3
      rw [hct] at r1
      have hw2 : IntKind.i64.wrap ((ct : Int) + 1) = (ct : Int) + 1 := ct_wrap2 hcl
      have L1 : Hid (Lo wa lo hi b rb hq A2 A [bx gp TP #[.pointer (some ⟨b, 0, none⟩), .pointer (some ⟨rb, 0, none⟩)], lM g (.slice As 6 cs) sw ws, rd .i64 (.slice p nO co) (bI O), bx gc TI (IA (cts (M.take (j + 1)))), rv TI 1 (.slice (some ⟨ga, 0, none⟩) n3 c3) n3 (is (bI M))] ((wr.setCell ⟨gc, bk, none⟩ (.int .i64 ((ct : Int) + 1))))) := Lib.hid (by
        have h9 := L0.out.put 3 bk (.int .i64 ((ct : Int) + 1)) rfl
        rw [← hct, cts_put hb6, show M.take j ++ [bk] = M.take (j + 1) by rw [List.take_add_one, hbk]; rfl] at h9
        rw [← hct]
        exact h9)
      clear L0 hct
      go_wp2_with fail
      go_roundw
      case rel => exact ⟨j + 1, by omega, by go_num, L1⟩
      case measure => (first | (simp [intOf]; omega) | simp [intOf])
    · have hje : j = n3 := by omega
      have hjeI : (n3 : Int) ≤ j := by omega
      have L1 : Hid (Lo wa lo hi b rb hq A2 A [bx gp TP #[.pointer (some ⟨b, 0, none⟩), .pointer (some ⟨rb, 0, none⟩)], lM g (.slice As 6 cs) sw ws, rd .i64 (.slice p nO co) (bI O), bx gc TI (IA (cts M)), rv TI 1 (.slice A3 n3 c3) n3 (is (bI M))] wr) := Lib.hid (by have h9 := L0.out; rw [List.take_of_length_le (by rw [HM3.out]; omega)] at h9; exact h9)
      clear L0 hlj hjn hje
      go_wp2_with fail
      go_loopw [23] (fun bv wr => ∃ (q : Nat), q ≤ 6 ∧ bv = .int .i64 q ∧ Hid (Lo wa lo hi b rb hq A2 A [bx gp TP #[.pointer (some ⟨b, 0, none⟩), .pointer (some ⟨rb, 0, none⟩)], lM g (.slice As 6 cs) sw ws, rd .i64 (.slice p nO co) (bI O), bx gc TI (IA (cts M)), rv TI 1 (.slice A3 n3 c3) n3 (is (bI M))] wr)) (fun bv _ => 6 - (intOf bv).toNat)
      case atStart => exact ⟨0, by omega, rfl, L1⟩
      case round =>
        clear L1
        obtain ⟨q, hq6, rfl, L0⟩ := hrel
        by_cases hlq : q < 6
        · have hlqI : (q : Int) < 6 := by omega
          have r1 : wr.cell? ⟨gc, q, none⟩ = some (.int .i64 1) := by have := ((L0.out.box 3 rfl).2.cell q).trans (cts_at (M := M) hlq); rw [HCN.out q hlq] at this; exact this
          go_wp2_with fail
          go_roundw
          case rel => exact ⟨q + 1, by omega, by go_num, L0⟩
          case measure => (first | (simp [intOf]; omega) | simp [intOf])
        · have hqe : q = 6 := by omega
          have hqeI : (6 : Int) ≤ q := by omega
          have LF : Hid (Lo wa lo hi b rb hq A2 A [bx gp TP #[.pointer (some ⟨b, 0, none⟩), .pointer (some ⟨rb, 0, none⟩)], lM g (.slice As 6 cs) sw ws, rd .i64 (.slice p nO co) (bI O)] wr) := Lib.hid (Lo.drop (ex := [bx gp TP #[.pointer (some ⟨b, 0, none⟩), .pointer (some ⟨rb, 0, none⟩)], lM g (.slice As 6 cs) sw ws, rd .i64 (.slice p nO co) (bI O)]) L0.out)
          have HMF : Hid (MI (10 + 30 * ((i + 1 : Nat) : Int)) A2 T2 L2 O ws) := Lib.hid (HM.out.more (by omega))
          clear L0
          go_wp2_with fail
          go_roundw
          case rel => exact ⟨i + 1, A2, T2, L2, O, ws, sw, p, nO, co, by omega, by go_num, rfl, hO, HMF, LF⟩
          case measure => (first | (simp [intOf]; omega) | simp [intOf])
theorem walk (w : World) (A0 : Option Addr) (n0 c0 : Nat) (l0 : n0 ≤ c0) (m0 : c0 ≤ maxLen) (s0 : LmO.RowD w A0 n0) :
    Calls Try.prog 8 #[.slice A0 n0 c0] w fun e w' => e = .returned (.bool true) ∧ Kept w w' := Pc.2 ⟨piece_1⟩ ⟨piece_2⟩ ⟨piece_3⟩ ⟨piece_4⟩ w A0 n0 c0 l0 m0 s0
/-! The row's step. -/
set_option maxRecDepth 100000 in
theorem lifted (os : Os) (started : os.Started) (H : Type) (enc : TypeId × Value → H) :
    ReturnsInHanded {} Try.checked os 8 .any (Rows.limboKeepsSpec.pre6 enc Try.prog Try.f8 Rows.limboKeepsRow.domain false) (Rows.limboKeepsSpec.post enc Try.prog Try.f8 false true false false) := by
  refine returnsInHanded_of_change (C := Try.checked) own started (by kernel_rfl) Try.func8
    (ChangeSpec.witness6 (enc := enc) (C := Try.checked) false ⟨#[], #[.slice none 0 0], []⟩ 8 (by kernel_rfl) (by kernel_rfl) (by kernel_rfl) (by kernel_rfl)) ?_
  intro W base args ds gs before hval0 hW hcnd _
  have hval : ∀ (j : Nat) t v, Try.f8.params[j]? = some t → args[j]? = some v → Value.okWide Try.prog W .any base t v := hval0
  have hW' := hW
  obtain ⟨p, q, hA0, hV, rfl, hfz, hnd⟩ := hW
  have hA : DataW.TrodAll enc Try.prog W 0 (fun _ => true) true Try.f8.params.toList args.toList ds p := hA0
  rw [Try.params8] at hA hval
  obtain ⟨v0, vs0, d0, ds0, p0, q0, hargs, rfl, rfl, h0, r0⟩ := trodAll_cons hA
  obtain ⟨rfl, rfl, rfl⟩ := trodAll_nil r0
  obtain rfl : args = #[v0] := by cases args; simp_all
  obtain ⟨rfl, rfl⟩ := trodVars_none hV
  have hk : ∀ W', Kept W W' → Rows.limboKeepsSpec.post enc Try.prog Try.f8 false true false false W #[v0] (.bool true) W' := fun W' hb =>
    post_law laidOut readable rfl Try.underlying4 rfl hW' rfl hb
  clear hA0 hval0 hA hW'
  obtain ⟨A0, n0, c0, rfl, l0, m0, s0⟩ := LmO.open_row (hval 0 89 v0 rfl rfl) h0
  refine (walk W A0 n0 c0 l0 m0 s0).mono fun e W' ⟨he, hg⟩ => ?_
  subst he
  exact ⟨_, rfl, hk W' hg⟩

theorem over : Rows.limboKeepsRow.holds Try.pinned (OpenSpec.ofChange Rows.limboKeepsSpec) :=
  OpenClaim.holds_of_wide 8 Try.f8 rfl rfl rfl rfl rfl rfl rfl ⟨rfl, rfl, rfl, rfl, rfl⟩ rfl rfl rfl rfl rfl (by kernel_rfl) Try.func8 (by kernel_rfl)
    (of_decide_eq_true (by kernel_rfl)) (by unfold Func.isWrapper; first | (rw [if_pos (by decide +kernel)]; kernel_rfl) | (rw [if_neg (by decide +kernel)]; exact ⟨rfl, rfl⟩))
    (fun os started H enc _ => lifted os started H enc)

/-- The statement. -/
theorem proved : Rows.LimboKeepsSaid :=
  over
#print axioms proved
end Go.Proofs.Ytpjbmbipkmpkhaa.limboKeeps
