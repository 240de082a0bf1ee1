/-
  Proved: CheckScript accepts every made script, and gives the thread, the position and the error that the document says (as the reference of layer 7 gives them) for made scripts of which one part is changed. No condition.
-/
import Derived.Test.YthnhmclnfgkppaaDoorRows
import Derived.WalkKit
import Derived.ProofKit
import Derived.OpenShut
import Derived.Test.YthnhmclnfgkppaaDoorFrame
import Derived.LaidMore
import Derived.Stop.Joined
import Derived.SevenTiedAt
import Derived.Test.YthnhmclnfgkppaaDoorTie
import Derived.Test.YthnhmclnfgkppaaDoorCards
import Derived.Test.YthnhmclnfgkppaaDoorScrR
import Derived.Test.YthnhmclnfgkppaaDoorScrB
import Derived.Test.YthnhmclnfgkppaaDoorScrC
import Derived.Test.YthnhmclnfgkppaaDoorLayK
import Derived.Test.YthnhmclnfgkppaaDoorLayM
import Derived.Test.YthnhmclnfgkppaaDoorLayO
import Derived.Test.YthnhmclnfgkppaaDoorLayP
import Derived.Deep.DeepCutAuto
import Derived.Deep.CutBlock
import Derived.Deep.RegionLaw
import Derived.Deep.RegionHeld3
namespace Go.Proofs.YthnhmclnfgkppaaDoor.layoutSpoiled
open Go.ChangeShapes Go.WideShapes Go.ChangeAt Go.RowKit
open LawFrame
open Go.ChangeMaps (open_string)
set_option linter.unusedVariables false

theorem own : ownKnob Tryd.prog.godebug = none := by kernel_rfl
theorem laidOut : laidOutB Tryd.prog = true := by kernel_rfl
theorem cells3 : Tryd.prog.cellsOf 3 = 1 := by kernel_rfl

open PlainT BlkW IsaE LayS LayA LayH LayK LayP ScrP ScrA ScrB ScrC ScrM ScrN ScrQ
set_option maxHeartbeats 4000000
set_option maxRecDepth 100000
theorem chk_of {q : Cfg} (h : Made q) : chkV q = 0 := chk_iff.2 (made_valid h)
abbrev BOX5 (x0 x1 x2 x3 x4 : Int) : Obj := .cells #[.int .i64 x0, .int .i64 x1, .int .i64 x2, .int .i64 x3, .int .i64 x4] 41

theorem readable : ∀ t ∈ Tryd.f6.params.toList, Tryd.prog.readableRec t = true ∧ t < Tryd.prog.types.size := by
  have h : (Tryd.f6.params.toList.all fun t => Tryd.prog.readableRec t && decide (t < Tryd.prog.types.size)) = true := by kernel_rfl
  intro t ht
  have := List.all_eq_true.1 h t ht
  simpa using this

/-! The walk. -/
/-- What is left of the walk in 9 places, and that the contract rests on it. -/
noncomputable def Pc :
    { P : Prop × Prop × Prop × Prop × Prop × Prop × Prop × Prop × Prop // PLift P.1 → PLift P.2.1 → PLift P.2.2.1 → PLift P.2.2.2.1 → PLift P.2.2.2.2.1 → PLift P.2.2.2.2.2.1 → PLift P.2.2.2.2.2.2.1 → PLift P.2.2.2.2.2.2.2.1 → PLift P.2.2.2.2.2.2.2.2 → ∀ (w : World) (hL : laidMetH Tryd.prog [("strongtx/isa.shapes", Rows.laid_strongtx_isa_shapes)] w) (x0_0 x0_1 x0_2 x0_3 x0_4 : Int) (wx0_0 : LayS.InI x0_0) (wx0_1 : LayS.InI x0_1) (wx0_2 : LayS.InI x0_2) (wx0_3 : LayS.InI x0_3) (wx0_4 : LayS.InI x0_4) (A1 : Option Addr) (n1 c1 : Nat) (l1 : n1 ≤ c1) (m1 : c1 ≤ maxLen) (s1 : ScrN.LL w A1 n1) (A2 : Option Addr) (n2 c2 : Nat) (z2 : List Int) (l2 : n2 ≤ c2) (m2 : c2 ≤ maxLen) (s2 : Ints .i64 w A2 n2 z2) (a3 : Int) (w3 : (Lit.int .i64 a3).wf = true) (a4 : Int) (w4 : (Lit.int .i64 a4).wf = true) (a5 : Int) (w5 : (Lit.int .i64 a5).wf = true), Calls Tryd.prog 6 #[.agg #[.int .i64 x0_0, .int .i64 x0_1, .int .i64 x0_2, .int .i64 x0_3, .int .i64 x0_4], .slice A1 n1 c1, .slice A2 n2 c2, .int .i64 a3, .int .i64 a4, .int .i64 a5] w fun e w' => e = .returned (.bool true) ∧ Kept w w' } := ⟨(_, _, _, _, _, _, _, _, _), fun h1p h2p h3p h4p h5p h6p h7p h8p h9p => by
  intro w hL x0_0 x0_1 x0_2 x0_3 x0_4 wx0_0 wx0_1 wx0_2 wx0_3 wx0_4 A1 n1 c1 l1 m1 s1 A2 n2 c2 z2 l2 m2 s2 a3 w3 a4 w4 a5 w5
  show Calls _ _ #[.agg _, _, _, _, _, _] _ _
  have hE := env_of_laid hL
  clear hL wx0_0 wx0_1 wx0_2 wx0_3 wx0_4 w3 w4
  have hv5 := w5
  clear w5
  have HE := Lib.hid hE
  have HB := Lib.hid (below_new w (BOX5 x0_0 x0_1 x0_2 x0_3 x0_4))
  have HL := Lib.hid s1
  have HK := Lib.hid s2
  clear hE s1 s2
  by_cases hbig : 4 < n1 ∨ 60 < n2
  · have a : 4 < n1 ∨ (¬ 4 < n1 ∧ 60 < n2) := by omega
    clear hbig
    rcases a with a | ⟨a, b⟩
    all_goals
      go_enter Tryd.func6, Tryd.ntmps6
      go_wp2_with (go_at_call 15; (with_reducible refine (l_awake _).mono ?_); rintro e w4 ⟨rfl, hb4⟩; have HB4 := Lib.hid (below_trans2 HB.out hb4); clear hb4)
      go_ret
      exact ⟨rfl, Kept.of_below HB4.out⟩
  · have a : ¬ 4 < n1 := by omega
    have b : ¬ 60 < n2 := by omega
    clear hbig
    go_enter Tryd.func6, Tryd.ntmps6
    go_wp2_with fail
    go_loopw [13] (fun iv wr => ∃ i : Nat, iv = .int .i64 i ∧ i ≤ n1 ∧ wr = w.alloc (BOX5 x0_0 x0_1 x0_2 x0_3 x0_4)) (fun iv _ => n1 - (intOf iv).toNat)
    case atStart => exact ⟨0, rfl, by omega, rfl⟩
    case round =>
      obtain ⟨i, rfl, hi, rfl⟩ := hrel
      by_cases hlt : i < n1
      · have hltI : (i : Int) < n1 := by omega
        obtain ⟨tb, toff, Ai, ni, ci, zi, rfl, htb, htc, h3, h4, h5⟩ := HL.out i hlt
        have htc2 : (w.alloc (BOX5 x0_0 x0_1 x0_2 x0_3 x0_4)).cell? ⟨tb, toff + i, none⟩ = some (.slice Ai ni ci) := (World.cell?_of_block (HB.out.block tb htb)).trans htc
        clear h5 htc
        by_cases h30 : 30 < ni
        · have h30I : (30 : Int) < ni := by omega
          go_wp2_with (go_at_call 15; (with_reducible refine (l_awake _).mono ?_); rintro e w4 ⟨rfl, hb4⟩; have HB4 := Lib.hid (below_trans2 HB.out hb4); clear hb4)
          go_ret
          exact ⟨rfl, Kept.of_below HB4.out⟩
        · have h30I : ¬ (30 : Int) < ni := by omega
          go_wp2_with fail
          go_roundw
          case rel => exact ⟨i + 1, by go_num, by omega, by first | rfl | trivial⟩
          case measure => simp [intOf]; omega
      · obtain rfl : i = n1 := by omega
        have HP5 := Lib.hid (Mem.new w 41 #[.int .i64 x0_0, .int .i64 x0_1, .int .i64 x0_2, .int .i64 x0_3, .int .i64 x0_4])
        have p0 := HP5.out.cell 0
        have p1 := HP5.out.cell 1
        have p2 := HP5.out.cell 2
        have p3 := HP5.out.cell 3
        have p4 := HP5.out.cell 4
        simp at p0 p1 p2 p3 p4
        go_upto_region 9 with (go_at_call 16; refine (l_config _ _ _ _ _ _).mono ?_; rintro e w1 ⟨q, rfl, hmd, hb1⟩)
        have HB1 := Lib.hid ((below_trans2 HB.out hb1).trans ((below_new w1 (.cells (cells q) TC)).mono (below_trans2 HB.out hb1).size))
        have HMc := Lib.hid (Mem.new w1 TC (cells q))
        have HMD := Lib.hid hmd
        obtain ⟨gc, hgc⟩ : ∃ gc, w1.heap.size = gc := ⟨_, rfl⟩
        rw [hgc] at HMc
        first | rw [hgc] | skip
        obtain ⟨W1, hW1⟩ : ∃ W1, w1.alloc (.cells (cells q) TC) = W1 := ⟨_, rfl⟩
        rw [hW1] at HB1 HMc
        first | rw [hW1] | skip
        clear hW1 hgc hb1 hmd p0 p1 p2 p3 p4 HP5 HB
        have hgcl := HMc.out.lt
        have hl1 : LL W1.drew A1 i := ScrR.LL.old HL.out (.of_below (below_drewN HB1.out 1))
        have hk1 : Ints .i64 W1.drew A2 n2 z2 := ints_old HK.out (.of_below (below_drewN HB1.out 1))
        have hl2 : LL (W1.alloc (.cells (scells cfg0 nilV nilV nilV) TS)).drew A1 i := ScrR.LL.old HL.out (.of_below (below_drewN (HB1.out.trans ((below_new W1 _).mono HB1.out.size)) 1))
        have hk2 : Ints .i64 (W1.alloc (.cells (scells cfg0 nilV nilV nilV) TS)).drew A2 n2 z2 := ints_old HK.out (.of_below (below_drewN (HB1.out.trans ((below_new W1 _).mono HB1.out.size)) 1))
        have HLW := Lib.hid hl1
        have HKW := Lib.hid hk1
        have HLW2 := Lib.hid hl2
        have HKW2 := Lib.hid hk2
        have hqw : 4 ≤ q.w ∧ q.w ≤ 12 := ⟨HMD.out.1, HMD.out.2.1⟩
        have hn200 : n2 ≤ 200000 := by omega
        have hbz : Below W1.heap.size W1 (W1.alloc (.cells (scells cfg0 nilV nilV nilV) TS)).drew := below_drewN (below_new W1 _) 1
        have hmz : Mem (W1.alloc (.cells (scells cfg0 nilV nilV nilV) TS)).drew W1.heap.size TS (scells cfg0 nilV nilV nilV) := Mem.new W1 TS _
        have HBZ := Lib.hid hbz
        have HMZ := Lib.hid hmz
        clear hl1 hk1 hl2 hk2 hbz hmz
        go_cut [15] (fun sv wc => ∃ gs : Nat, sv = .pointer (some ⟨gs, 0, none⟩) ∧ Hid (ScrR.ScrAt W1 q n2 gs wc))
        case first =>
          rename_i Q'z1 Kz1 hz1 hz2 Q'z2 Kz2 az1 Kz3 az2 Jz1 K'z1 az3 az4
          revert w x0_0 x0_1 x0_2 x0_3 x0_4 A1 c1 m1 A2 n2 c2 z2 l2 m2 a3 a4 a5 hv5 HE HK b Q'z1 Kz1 u12 u32 u33 u34 u35 u36 u37 u38 u39 u40 u41 u42 u43 u44 i l1 HL a hz1 hz2 hi hlt Q'z2 Kz2 az1 w1 q Kz3 az2 HMD gc W1 HMc HB1 hgcl HLW HKW HLW2 HKW2 hqw hn200 HBZ HMZ Jz1 K'z1 az3 az4
          exact h1p.down
        case rest =>
          obtain ⟨gs, rfl, HA⟩ := hcut
          obtain ⟨n, Ai, ci, Ap, cp, Aq, cq, i0, xs, vs, ps, ks, zs, hn1, hn3, hsm, hmm, hgs⟩ := HA.out
          have HBw := Lib.hid (HB1.out.trans (hsm.bel.mono HB1.out.size))
          have HEw := Lib.hid (HE.out.below HBw.out)
          have HH := Lib.hid (ScrR.sm_holds hn3 hsm)
          have HCS := Lib.hid (ScrR.sm_csV (chk_of HMD.out) hn1 hn3 (by omega) hsm)
          obtain ⟨r0, r1, r2, r3, r4, r5, r6, r7, r8, r9, r10, r11, r12, r13, r14, r15⟩ := sbox_cells hmm
          have HSM := Lib.hid hsm
          have HMM := Lib.hid hmm
          clear hsm hmm HA HLW HKW HLW2 HKW2 HBZ HMZ hqw hn200 HMc hgcl HL HK
          go_upto_region 11 with (go_at_call 18; (with_reducible refine (a_script ⟨q, i0, ps, zs⟩ Ai ci Ap n cp Aq n2 cq _ HEw.out HH.out 0 0 0 HCS.out).mono ?_); rintro e w4 ⟨rfl, hb4⟩)
          have HB4 := Lib.hid (below_trans2 HBw.out hb4)
          have HSM4 := Lib.hid (ScrR.SM.below HSM.out hb4)
          have HMM4 := Lib.hid (HMM.out.below hb4 HMM.out.lt)
          clear hb4 HSM HMM HH HCS HEw HBw r0 r1 r2 r3 r4 r5 r6 r7 r8 r9 r10 r11 r12 r13 r14 r15
          go_upto_block 2 with (go_at_call 12; (with_reducible refine (k_place_ex _ _ (by omega) (by omega) _).mono ?_); rintro e w5 ⟨u, u0, u1, rfl, rfl⟩)
          have HR4 := Lib.hid (sm_rs hn3 HSM4.out)
          have hi0 : i0 ≤ 12 := by have := HSM4.out.len; have := HMD.out.2.1; omega
          go_cut [15] (fun sv wc => sv = .pointer (some ⟨gs, 0, none⟩) ∧ Hid (Fin W1 gs wc))
          case first =>
            obtain ⟨r0, r1, r2, r3, r4, r5, r6, r7, r8, r9, r10, r11, r12, r13, r14, r15⟩ := sbox_cells HMM4.out
            have hrz := HMM4.out.frozen
            have hu : u = 0 ∨ u = 1 ∨ u = 2 ∨ u = 3 ∨ u = 4 ∨ u = 5 ∨ u = 6 := by omega
            clear u0 u1
            rcases hu with rfl | rfl | rfl | rfl | rfl | rfl | rfl
            · skip
              rename_i Q'z1 Kz1 u32z1 u33z1 u34z1 u35z1 u36z1 u37z1 u38z1 u39z1 u40z1 u41z1 u42z1 u43z1 u44z1 hz1 hz2 Q'z2 Kz2 az1 Kz3 az2 Jz1 K'z1 az3 az4
              revert w x0_0 x0_1 x0_2 x0_3 x0_4 A1 c1 m1 A2 n2 c2 z2 l2 m2 a3 a4 a5 hv5 HE b Q'z1 Kz1 u12 u32z1 u33z1 u34z1 u35z1 u36z1 u37z1 u38z1 u39z1 u40z1 u41z1 u42z1 u43z1 u44z1 i l1 a hz1 hz2 hi hlt Q'z2 Kz2 az1 w1 q HMD gc W1 HB1 wc u23 u24 u25 u26 u27 u28 u29 u30 u31 u32 u33 u34 u35 u36 u37 u38 u39 u40 u41 u42 u43 u44 u45 u46 u47 u48 u49 u50 u51 u52 u53 u54 u55 u56 u57 u58 u59 u60 u61 u62 u63 u64 u65 u66 u67 u68 u69 u70 u71 u72 u73 u74 u75 u76 u77 u78 u79 u81 u82 u83 u84 u85 u86 u87 u88 u89 u90 u91 u92 u94 u95 u96 u97 u98 u99 u100 u102 u103 u104 u105 u106 u107 u109 u110 u112 u113 u114 u115 u116 u117 u118 u119 u120 u121 u122 u123 u124 u125 u126 u127 u128 u129 u130 u131 u132 u133 u134 u135 u136 u137 u138 u139 u140 u141 u143 u144 u145 u146 u147 u148 u149 u150 u151 u152 u153 u154 u155 u156 u158 u159 u160 u161 u162 u163 u164 u165 u166 u167 u168 u169 u170 u171 u172 u173 u174 u175 u176 u177 u178 u179 u180 u181 u182 u183 u184 u185 u186 u187 u188 u189 u190 u191 gs n Ai ci Ap cp Aq cq i0 xs vs ps ks zs hn1 hn3 hgs w4 HB4 HSM4 HMM4 Kz3 az2 HR4 hi0 Jz1 K'z1 az3 r0 r1 r2 r3 r4 r5 r6 r7 r8 r9 r10 r11 r12 r13 r14 r15 hrz az4
              exact h2p.down
            · skip
              rename_i Q'z1 Kz1 u32z1 u33z1 u34z1 u35z1 u36z1 u37z1 u38z1 u39z1 u40z1 u41z1 u42z1 u43z1 u44z1 hz1 hz2 Q'z2 Kz2 az1 Kz3 az2 Jz1 K'z1 az3 az4
              revert w x0_0 x0_1 x0_2 x0_3 x0_4 A1 c1 m1 A2 n2 c2 z2 l2 m2 a3 a4 a5 hv5 HE b Q'z1 Kz1 u12 u32z1 u33z1 u34z1 u35z1 u36z1 u37z1 u38z1 u39z1 u40z1 u41z1 u42z1 u43z1 u44z1 i l1 a hz1 hz2 hi hlt Q'z2 Kz2 az1 w1 q HMD gc W1 HB1 wc u23 u24 u25 u26 u27 u28 u29 u30 u31 u32 u33 u34 u35 u36 u37 u38 u39 u40 u41 u42 u43 u44 u45 u46 u47 u48 u49 u50 u51 u52 u53 u54 u55 u56 u57 u58 u59 u60 u61 u62 u63 u64 u65 u66 u67 u68 u69 u70 u71 u72 u73 u74 u75 u76 u77 u78 u79 u81 u82 u83 u84 u85 u86 u87 u88 u89 u90 u91 u92 u94 u95 u96 u97 u98 u99 u100 u102 u103 u104 u105 u106 u107 u109 u110 u112 u113 u114 u115 u116 u117 u118 u119 u120 u121 u122 u123 u124 u125 u126 u127 u128 u129 u130 u131 u132 u133 u134 u135 u136 u137 u138 u139 u140 u141 u143 u144 u145 u146 u147 u148 u149 u150 u151 u152 u153 u154 u155 u156 u158 u159 u160 u161 u162 u163 u164 u165 u166 u167 u168 u169 u170 u171 u172 u173 u174 u175 u176 u177 u178 u179 u180 u181 u182 u183 u184 u185 u186 u187 u188 u189 u190 u191 gs n Ai ci Ap cp Aq cq i0 xs vs ps ks zs hn1 hn3 hgs w4 HB4 HSM4 HMM4 Kz3 az2 HR4 hi0 Jz1 K'z1 az3 r0 r1 r2 r3 r4 r5 r6 r7 r8 r9 r10 r11 r12 r13 r14 r15 hrz az4
              exact h3p.down
            · skip
              rename_i Q'z1 Kz1 u32z1 u33z1 u34z1 u35z1 u36z1 u37z1 u38z1 u39z1 u40z1 u41z1 u42z1 u43z1 u44z1 hz1 hz2 Q'z2 Kz2 az1 Kz3 az2 Jz1 K'z1 az3 az4
              revert w x0_0 x0_1 x0_2 x0_3 x0_4 A1 c1 m1 A2 n2 c2 z2 l2 m2 a3 a4 a5 hv5 HE b Q'z1 Kz1 u12 u32z1 u33z1 u34z1 u35z1 u36z1 u37z1 u38z1 u39z1 u40z1 u41z1 u42z1 u43z1 u44z1 i l1 a hz1 hz2 hi hlt Q'z2 Kz2 az1 w1 q HMD gc W1 HB1 wc u23 u24 u25 u26 u27 u28 u29 u30 u31 u32 u33 u34 u35 u36 u37 u38 u39 u40 u41 u42 u43 u44 u45 u46 u47 u48 u49 u50 u51 u52 u53 u54 u55 u56 u57 u58 u59 u60 u61 u62 u63 u64 u65 u66 u67 u68 u69 u70 u71 u72 u73 u74 u75 u76 u77 u78 u79 u81 u82 u83 u84 u85 u86 u87 u88 u89 u90 u91 u92 u94 u95 u96 u97 u98 u99 u100 u102 u103 u104 u105 u106 u107 u109 u110 u112 u113 u114 u115 u116 u117 u118 u119 u120 u121 u122 u123 u124 u125 u126 u127 u128 u129 u130 u131 u132 u133 u134 u135 u136 u137 u138 u139 u140 u141 u143 u144 u145 u146 u147 u148 u149 u150 u151 u152 u153 u154 u155 u156 u158 u159 u160 u161 u162 u163 u164 u165 u166 u167 u168 u169 u170 u171 u172 u173 u174 u175 u176 u177 u178 u179 u180 u181 u182 u183 u184 u185 u186 u187 u188 u189 u190 u191 gs n Ai ci Ap cp Aq cq i0 xs vs ps ks zs hn1 hn3 hgs w4 HB4 HSM4 HMM4 Kz3 az2 HR4 hi0 Jz1 K'z1 az3 r0 r1 r2 r3 r4 r5 r6 r7 r8 r9 r10 r11 r12 r13 r14 r15 hrz az4
              exact h4p.down
            · skip
              rename_i Q'z1 Kz1 u32z1 u33z1 u34z1 u35z1 u36z1 u37z1 u38z1 u39z1 u40z1 u41z1 u42z1 u43z1 u44z1 hz1 hz2 Q'z2 Kz2 az1 Kz3 az2 Jz1 K'z1 az3 az4
              revert w x0_0 x0_1 x0_2 x0_3 x0_4 A1 c1 m1 A2 n2 c2 z2 l2 m2 a3 a4 a5 hv5 HE b Q'z1 Kz1 u12 u32z1 u33z1 u34z1 u35z1 u36z1 u37z1 u38z1 u39z1 u40z1 u41z1 u42z1 u43z1 u44z1 i l1 a hz1 hz2 hi hlt Q'z2 Kz2 az1 w1 q HMD gc W1 HB1 wc u23 u24 u25 u26 u27 u28 u29 u30 u31 u32 u33 u34 u35 u36 u37 u38 u39 u40 u41 u42 u43 u44 u45 u46 u47 u48 u49 u50 u51 u52 u53 u54 u55 u56 u57 u58 u59 u60 u61 u62 u63 u64 u65 u66 u67 u68 u69 u70 u71 u72 u73 u74 u75 u76 u77 u78 u79 u81 u82 u83 u84 u85 u86 u87 u88 u89 u90 u91 u92 u94 u95 u96 u97 u98 u99 u100 u102 u103 u104 u105 u106 u107 u109 u110 u112 u113 u114 u115 u116 u117 u118 u119 u120 u121 u122 u123 u124 u125 u126 u127 u128 u129 u130 u131 u132 u133 u134 u135 u136 u137 u138 u139 u140 u141 u143 u144 u145 u146 u147 u148 u149 u150 u151 u152 u153 u154 u155 u156 u158 u159 u160 u161 u162 u163 u164 u165 u166 u167 u168 u169 u170 u171 u172 u173 u174 u175 u176 u177 u178 u179 u180 u181 u182 u183 u184 u185 u186 u187 u188 u189 u190 u191 gs n Ai ci Ap cp Aq cq i0 xs vs ps ks zs hn1 hn3 hgs w4 HB4 HSM4 HMM4 Kz3 az2 HR4 hi0 Jz1 K'z1 az3 r0 r1 r2 r3 r4 r5 r6 r7 r8 r9 r10 r11 r12 r13 r14 r15 hrz az4
              exact h5p.down
            · skip
              rename_i Q'z1 Kz1 u32z1 u33z1 u34z1 u35z1 u36z1 u37z1 u38z1 u39z1 u40z1 u41z1 u42z1 u43z1 u44z1 hz1 hz2 Q'z2 Kz2 az1 Kz3 az2 Jz1 K'z1 az3 az4
              revert w x0_0 x0_1 x0_2 x0_3 x0_4 A1 c1 m1 A2 n2 c2 z2 l2 m2 a3 a4 a5 hv5 HE b Q'z1 Kz1 u12 u32z1 u33z1 u34z1 u35z1 u36z1 u37z1 u38z1 u39z1 u40z1 u41z1 u42z1 u43z1 u44z1 i l1 a hz1 hz2 hi hlt Q'z2 Kz2 az1 w1 q HMD gc W1 HB1 wc u23 u24 u25 u26 u27 u28 u29 u30 u31 u32 u33 u34 u35 u36 u37 u38 u39 u40 u41 u42 u43 u44 u45 u46 u47 u48 u49 u50 u51 u52 u53 u54 u55 u56 u57 u58 u59 u60 u61 u62 u63 u64 u65 u66 u67 u68 u69 u70 u71 u72 u73 u74 u75 u76 u77 u78 u79 u81 u82 u83 u84 u85 u86 u87 u88 u89 u90 u91 u92 u94 u95 u96 u97 u98 u99 u100 u102 u103 u104 u105 u106 u107 u109 u110 u112 u113 u114 u115 u116 u117 u118 u119 u120 u121 u122 u123 u124 u125 u126 u127 u128 u129 u130 u131 u132 u133 u134 u135 u136 u137 u138 u139 u140 u141 u143 u144 u145 u146 u147 u148 u149 u150 u151 u152 u153 u154 u155 u156 u158 u159 u160 u161 u162 u163 u164 u165 u166 u167 u168 u169 u170 u171 u172 u173 u174 u175 u176 u177 u178 u179 u180 u181 u182 u183 u184 u185 u186 u187 u188 u189 u190 u191 gs n Ai ci Ap cp Aq cq i0 xs vs ps ks zs hn1 hn3 hgs w4 HB4 HSM4 HMM4 Kz3 az2 HR4 hi0 Jz1 K'z1 az3 r0 r1 r2 r3 r4 r5 r6 r7 r8 r9 r10 r11 r12 r13 r14 r15 hrz az4
              exact h6p.down
            · skip
              rename_i Q'z1 Kz1 u32z1 u33z1 u34z1 u35z1 u36z1 u37z1 u38z1 u39z1 u40z1 u41z1 u42z1 u43z1 u44z1 hz1 hz2 Q'z2 Kz2 az1 Kz3 az2 Jz1 K'z1 az3 az4
              revert w x0_0 x0_1 x0_2 x0_3 x0_4 A1 c1 m1 A2 n2 c2 z2 l2 m2 a3 a4 a5 hv5 HE b Q'z1 Kz1 u12 u32z1 u33z1 u34z1 u35z1 u36z1 u37z1 u38z1 u39z1 u40z1 u41z1 u42z1 u43z1 u44z1 i l1 a hz1 hz2 hi hlt Q'z2 Kz2 az1 w1 q HMD gc W1 HB1 wc u23 u24 u25 u26 u27 u28 u29 u30 u31 u32 u33 u34 u35 u36 u37 u38 u39 u40 u41 u42 u43 u44 u45 u46 u47 u48 u49 u50 u51 u52 u53 u54 u55 u56 u57 u58 u59 u60 u61 u62 u63 u64 u65 u66 u67 u68 u69 u70 u71 u72 u73 u74 u75 u76 u77 u78 u79 u81 u82 u83 u84 u85 u86 u87 u88 u89 u90 u91 u92 u94 u95 u96 u97 u98 u99 u100 u102 u103 u104 u105 u106 u107 u109 u110 u112 u113 u114 u115 u116 u117 u118 u119 u120 u121 u122 u123 u124 u125 u126 u127 u128 u129 u130 u131 u132 u133 u134 u135 u136 u137 u138 u139 u140 u141 u143 u144 u145 u146 u147 u148 u149 u150 u151 u152 u153 u154 u155 u156 u158 u159 u160 u161 u162 u163 u164 u165 u166 u167 u168 u169 u170 u171 u172 u173 u174 u175 u176 u177 u178 u179 u180 u181 u182 u183 u184 u185 u186 u187 u188 u189 u190 u191 gs n Ai ci Ap cp Aq cq i0 xs vs ps ks zs hn1 hn3 hgs w4 HB4 HSM4 HMM4 Kz3 az2 HR4 hi0 Jz1 K'z1 az3 r0 r1 r2 r3 r4 r5 r6 r7 r8 r9 r10 r11 r12 r13 r14 r15 hrz az4
              exact h7p.down
            · skip
              rename_i Q'z1 Kz1 u32z1 u33z1 u34z1 u35z1 u36z1 u37z1 u38z1 u39z1 u40z1 u41z1 u42z1 u43z1 u44z1 hz1 hz2 Q'z2 Kz2 az1 Kz3 az2 Jz1 K'z1 az3 az4
              revert w x0_0 x0_1 x0_2 x0_3 x0_4 A1 c1 m1 A2 n2 c2 z2 l2 m2 a3 a4 a5 hv5 HE b Q'z1 Kz1 u12 u32z1 u33z1 u34z1 u35z1 u36z1 u37z1 u38z1 u39z1 u40z1 u41z1 u42z1 u43z1 u44z1 i l1 a hz1 hz2 hi hlt Q'z2 Kz2 az1 w1 q HMD gc W1 HB1 wc u23 u24 u25 u26 u27 u28 u29 u30 u31 u32 u33 u34 u35 u36 u37 u38 u39 u40 u41 u42 u43 u44 u45 u46 u47 u48 u49 u50 u51 u52 u53 u54 u55 u56 u57 u58 u59 u60 u61 u62 u63 u64 u65 u66 u67 u68 u69 u70 u71 u72 u73 u74 u75 u76 u77 u78 u79 u81 u82 u83 u84 u85 u86 u87 u88 u89 u90 u91 u92 u94 u95 u96 u97 u98 u99 u100 u102 u103 u104 u105 u106 u107 u109 u110 u112 u113 u114 u115 u116 u117 u118 u119 u120 u121 u122 u123 u124 u125 u126 u127 u128 u129 u130 u131 u132 u133 u134 u135 u136 u137 u138 u139 u140 u141 u143 u144 u145 u146 u147 u148 u149 u150 u151 u152 u153 u154 u155 u156 u158 u159 u160 u161 u162 u163 u164 u165 u166 u167 u168 u169 u170 u171 u172 u173 u174 u175 u176 u177 u178 u179 u180 u181 u182 u183 u184 u185 u186 u187 u188 u189 u190 u191 gs n Ai ci Ap cp Aq cq i0 xs vs ps ks zs hn1 hn3 hgs w4 HB4 HSM4 HMM4 Kz3 az2 HR4 hi0 Jz1 K'z1 az3 r0 r1 r2 r3 r4 r5 r6 r7 r8 r9 r10 r11 r12 r13 r14 r15 hrz az4
              exact h8p.down
          case rest =>
            obtain ⟨rfl, HF⟩ := hcut
            rename_i Q'z1 Kz1 u32z1 u33z1 u34z1 u35z1 u36z1 u37z1 u38z1 u39z1 u40z1 u41z1 u42z1 u43z1 u44z1 hz1 hz2 Q'z2 Kz2 az1 wcz1 u23z1 u24z1 u25z1 u26z1 u27z1 u28z1 u29z1 u30z1 u31z1 u32z2 u33z2 u34z2 u35z2 u36z2 u37z2 u38z2 u39z2 u40z2 u41z2 u42z2 u43z2 u44z2 u45z1 u46z1 u47z1 u48z1 u49z1 u50z1 u51z1 u52z1 u53z1 u54z1 u55z1 u56z1 u57z1 u58z1 u59z1 u60z1 u61z1 u62z1 u63z1 u64z1 u65z1 u66z1 u67z1 u68z1 u69z1 u70z1 u71z1 u72z1 u73z1 u74z1 u75z1 u76z1 u77z1 u78z1 u79z1 u81z1 u82z1 u83z1 u84z1 u85z1 u86z1 u87z1 u88z1 u89z1 u90z1 u91z1 u92z1 u94z1 u95z1 u96z1 u97z1 u98z1 u99z1 u100z1 u102z1 u103z1 u104z1 u105z1 u106z1 u107z1 u109z1 u110z1 u112z1 u113z1 u114z1 u115z1 u116z1 u117z1 u118z1 u119z1 u120z1 u121z1 u122z1 u123z1 u124z1 u125z1 u126z1 u127z1 u128z1 u129z1 u130z1 u131z1 u132z1 u133z1 u134z1 u135z1 u136z1 u137z1 u138z1 u139z1 u140z1 u141z1 u143z1 u144z1 u145z1 u146z1 u147z1 u148z1 u149z1 u150z1 u151z1 u152z1 u153z1 u154z1 u155z1 u156z1 u158z1 u159z1 u160z1 u161z1 u162z1 u163z1 u164z1 u165z1 u166z1 u167z1 u168z1 u169z1 u170z1 u171z1 u172z1 u173z1 u174z1 u175z1 u176z1 u177z1 u178z1 u179z1 u180z1 u181z1 u182z1 u183z1 u184z1 u185z1 u186z1 u187z1 u188z1 u189z1 u190z1 u191z1 Kz3 az2
            revert w x0_0 x0_1 x0_2 x0_3 x0_4 A1 c1 m1 A2 n2 c2 z2 l2 m2 a3 a4 a5 hv5 HE b Q'z1 Kz1 u12 u32z1 u33z1 u34z1 u35z1 u36z1 u37z1 u38z1 u39z1 u40z1 u41z1 u42z1 u43z1 u44z1 i l1 a hz1 hz2 hi hlt Q'z2 Kz2 az1 w1 q HMD gc W1 HB1 wcz1 u23z1 u24z1 u25z1 u26z1 u27z1 u28z1 u29z1 u30z1 u31z1 u32z2 u33z2 u34z2 u35z2 u36z2 u37z2 u38z2 u39z2 u40z2 u41z2 u42z2 u43z2 u44z2 u45z1 u46z1 u47z1 u48z1 u49z1 u50z1 u51z1 u52z1 u53z1 u54z1 u55z1 u56z1 u57z1 u58z1 u59z1 u60z1 u61z1 u62z1 u63z1 u64z1 u65z1 u66z1 u67z1 u68z1 u69z1 u70z1 u71z1 u72z1 u73z1 u74z1 u75z1 u76z1 u77z1 u78z1 u79z1 u81z1 u82z1 u83z1 u84z1 u85z1 u86z1 u87z1 u88z1 u89z1 u90z1 u91z1 u92z1 u94z1 u95z1 u96z1 u97z1 u98z1 u99z1 u100z1 u102z1 u103z1 u104z1 u105z1 u106z1 u107z1 u109z1 u110z1 u112z1 u113z1 u114z1 u115z1 u116z1 u117z1 u118z1 u119z1 u120z1 u121z1 u122z1 u123z1 u124z1 u125z1 u126z1 u127z1 u128z1 u129z1 u130z1 u131z1 u132z1 u133z1 u134z1 u135z1 u136z1 u137z1 u138z1 u139z1 u140z1 u141z1 u143z1 u144z1 u145z1 u146z1 u147z1 u148z1 u149z1 u150z1 u151z1 u152z1 u153z1 u154z1 u155z1 u156z1 u158z1 u159z1 u160z1 u161z1 u162z1 u163z1 u164z1 u165z1 u166z1 u167z1 u168z1 u169z1 u170z1 u171z1 u172z1 u173z1 u174z1 u175z1 u176z1 u177z1 u178z1 u179z1 u180z1 u181z1 u182z1 u183z1 u184z1 u185z1 u186z1 u187z1 u188z1 u189z1 u190z1 u191z1 gs n Ai ci Ap cp Aq cq i0 xs vs ps ks zs hn1 hn3 hgs w4 HB4 HSM4 HMM4 Kz3 az2 u u0 u1 HR4 hi0 wc u19 u23 u24 u25 u26 u27 u28 u29 u30 u31 u32 u33 u34 u35 u36 u37 u38 u39 u40 u41 u42 u43 u44 u45 u46 u47 u48 u49 u50 u51 u52 u53 u54 u55 u56 u57 u58 u59 u60 u61 u62 u63 u64 u65 u66 u67 u68 u69 u70 u71 u72 u73 u74 u75 u76 u77 u78 u79 u81 u82 u83 u84 u85 u86 u87 u88 u89 u90 u91 u92 u93 u94 u95 u96 u97 u98 u99 u100 u101 u102 u103 u104 u105 u106 u107 u108 u109 u110 u111 u112 u113 u114 u115 u116 u117 u118 u119 u120 u121 u122 u123 u124 u125 u126 u127 u128 u129 u130 u131 u132 u133 u134 u135 u136 u137 u138 u139 u140 u141 u142 u143 u144 u145 u146 u147 u148 u149 u150 u151 u152 u153 u154 u155 u156 u157 u158 u159 u160 u161 u162 u163 u164 u165 u166 u167 u168 u169 u170 u171 u172 u173 u174 u175 u176 u177 u178 u179 u180 u181 u182 u183 u184 u185 u186 u187 u188 u189 u190 u191 HF
            exact h9p.down⟩
theorem piece_1 : Pc.1.1 := by
  intro w x0_0 x0_1 x0_2 x0_3 x0_4 A1 c1 m1 A2 n2 c2 z2 l2 m2 a3 a4 a5 hv5 HE HK b Q'z1 Kz1 u12 u32 u33 u34 u35 u36 u37 u38 u39 u40 u41 u42 u43 u44 i l1 HL a hz1 hz2 hi hlt Q'z2 Kz2 az1 w1 q Kz3 az2 HMD gc W1 HMc HB1 hgcl HLW HKW HLW2 HKW2 hqw hn200 HBZ HMZ Jz1 K'z1 az3 az4
  obtain ⟨d0, d1, d2, d3, d4, d5, d6, d7, d8, d9, d10, d11, d12⟩ := box_cells (show Mem W1.drew gc TC (cells q) from HMc.out)
  obtain ⟨e0, e1, e2, e3, e4, e5, e6, e7, e8, e9, e10, e11, e12⟩ := box_cells HMc.out
  go_region_law (first
    | (go_simp; go_at_call 12; (with_reducible refine (k_place_ex _ _ (by omega) (by omega) _).mono ?_); rintro e w2 ⟨u, u0, u1, rfl, rfl⟩; have hwu : IntKind.i64.wrap (1 + u) = 1 + u := IntWalk.i64_in _ (by omega); have hu1 : 1 ≤ 1 + u := (by omega); have hu3 : 1 + u ≤ 3 := (by omega))
    | (go_simp; go_at_call 17; (with_reducible refine (ScrR.k_script_i q hqw _ hu1 hu3 A1 _ c1 20 20 rfl (by omega) (by omega) true true A2 n2 c2 hn200 z2 _ (by exact HLW.out) (by exact HKW.out)).mono ?_); rintro e w3 ⟨n, Ai, ci, Ap, cp, Aq, cq, i0, xs, vs, ps, ks, zs, rfl, hnu, hsm⟩; have HX : Hid (ScrR.ScrAt W1 q n2 w3.heap.size (w3.alloc (.cells (scells q (.slice Ai i0 ci) (.slice Ap n cp) (.slice Aq n2 cq)) TS))) := Lib.hid (ScrR.at_new hsm (by omega) (by omega) rfl); clear hsm)
    | (go_simp; go_at_call 17; (with_reducible refine (ScrR.k_script_i q hqw _ hu1 hu3 A1 _ c1 20 20 rfl (by omega) (by omega) true true A2 n2 c2 hn200 z2 _ (by exact HLW2.out) (by exact HKW2.out)).mono ?_); rintro e w3 ⟨n, Ai, ci, Ap, cp, Aq, cq, i0, xs, vs, ps, ks, zs, rfl, hnu, hsm⟩; have hmw : Mem w3 W1.heap.size TS (scells cfg0 nilV nilV nilV) := (hsm.bel.block _ HMZ.out.lt).trans HMZ.out; have HY := Lib.hid (ScrR.at_row hsm (by omega) (by omega) HBZ.out hmw); clear hsm; go_simp; rename_i Kk hKk; (refine hKk _ _ ?_); clear hKk Kk; (refine wpAny_ready (rs := [8]) (by kernel_rfl) (by simp) ?_); (refine AllReady.cons rfl (fun K hK => ?_) AllReady.nil); (refine ScrR.step_srow rfl TS _ _ rfl W1.heap.size (scells q (.slice Ai i0 ci) (.slice Ap n cp) (.slice Aq n2 cq)) rfl rfl TS (scells cfg0 nilV nilV nilV) hmw (ScrR.info_ts _ rfl) rfl (ScrR.scells_one _ _ _ _ _ _ _ _ _ _) ?_); (refine hK _ _ ?_); clear hK K))
  all_goals go_wp2_with fail
  all_goals go_meet
  all_goals first | exact ⟨_, rfl, HX⟩ | exact ⟨_, rfl, HY⟩
theorem piece_2 : Pc.1.2.1 := by
  intro w x0_0 x0_1 x0_2 x0_3 x0_4 A1 c1 m1 A2 n2 c2 z2 l2 m2 a3 a4 a5 hv5 HE b Q'z1 Kz1 u12 u32z1 u33z1 u34z1 u35z1 u36z1 u37z1 u38z1 u39z1 u40z1 u41z1 u42z1 u43z1 u44z1 i l1 a hz1 hz2 hi hlt Q'z2 Kz2 az1 w1 q HMD gc W1 HB1 wc u23 u24 u25 u26 u27 u28 u29 u30 u31 u32 u33 u34 u35 u36 u37 u38 u39 u40 u41 u42 u43 u44 u45 u46 u47 u48 u49 u50 u51 u52 u53 u54 u55 u56 u57 u58 u59 u60 u61 u62 u63 u64 u65 u66 u67 u68 u69 u70 u71 u72 u73 u74 u75 u76 u77 u78 u79 u81 u82 u83 u84 u85 u86 u87 u88 u89 u90 u91 u92 u94 u95 u96 u97 u98 u99 u100 u102 u103 u104 u105 u106 u107 u109 u110 u112 u113 u114 u115 u116 u117 u118 u119 u120 u121 u122 u123 u124 u125 u126 u127 u128 u129 u130 u131 u132 u133 u134 u135 u136 u137 u138 u139 u140 u141 u143 u144 u145 u146 u147 u148 u149 u150 u151 u152 u153 u154 u155 u156 u158 u159 u160 u161 u162 u163 u164 u165 u166 u167 u168 u169 u170 u171 u172 u173 u174 u175 u176 u177 u178 u179 u180 u181 u182 u183 u184 u185 u186 u187 u188 u189 u190 u191 gs n Ai ci Ap cp Aq cq i0 xs vs ps ks zs hn1 hn3 hgs w4 HB4 HSM4 HMM4 Kz3 az2 HR4 hi0 Jz1 K'z1 az3 r0 r1 r2 r3 r4 r5 r6 r7 r8 r9 r10 r11 r12 r13 r14 r15 hrz az4
  go_wp2_with (go_at_call 19; (with_reducible refine (LayM.l_spoil q a4 a5 _).mono ?_); rintro e w6 ⟨q', rfl, hb6⟩; have HM6 := Lib.hid (HMM4.out.below hb6 HMM4.out.lt); have HR6 := Lib.hid (HR4.out.below hb6); obtain ⟨s0, s1, s2, s3, s4, s5, s6, s7, s8, s9, s10, s11, s12, s13, s14, s15⟩ := sbox_cells HM6.out; have hsz := HM6.out.frozen; clear hb6)
  all_goals go_meet
  have hF := fin_cfg (q' := q') HR6.out HM6.out hgs
  simp only [ScrN.puts, List.foldl_cons, List.foldl_nil] at hF
  exact ⟨rfl, Lib.hid hF⟩
theorem piece_3 : Pc.1.2.2.1 := by
  intro w x0_0 x0_1 x0_2 x0_3 x0_4 A1 c1 m1 A2 n2 c2 z2 l2 m2 a3 a4 a5 hv5 HE b Q'z1 Kz1 u12 u32z1 u33z1 u34z1 u35z1 u36z1 u37z1 u38z1 u39z1 u40z1 u41z1 u42z1 u43z1 u44z1 i l1 a hz1 hz2 hi hlt Q'z2 Kz2 az1 w1 q HMD gc W1 HB1 wc u23 u24 u25 u26 u27 u28 u29 u30 u31 u32 u33 u34 u35 u36 u37 u38 u39 u40 u41 u42 u43 u44 u45 u46 u47 u48 u49 u50 u51 u52 u53 u54 u55 u56 u57 u58 u59 u60 u61 u62 u63 u64 u65 u66 u67 u68 u69 u70 u71 u72 u73 u74 u75 u76 u77 u78 u79 u81 u82 u83 u84 u85 u86 u87 u88 u89 u90 u91 u92 u94 u95 u96 u97 u98 u99 u100 u102 u103 u104 u105 u106 u107 u109 u110 u112 u113 u114 u115 u116 u117 u118 u119 u120 u121 u122 u123 u124 u125 u126 u127 u128 u129 u130 u131 u132 u133 u134 u135 u136 u137 u138 u139 u140 u141 u143 u144 u145 u146 u147 u148 u149 u150 u151 u152 u153 u154 u155 u156 u158 u159 u160 u161 u162 u163 u164 u165 u166 u167 u168 u169 u170 u171 u172 u173 u174 u175 u176 u177 u178 u179 u180 u181 u182 u183 u184 u185 u186 u187 u188 u189 u190 u191 gs n Ai ci Ap cp Aq cq i0 xs vs ps ks zs hn1 hn3 hgs w4 HB4 HSM4 HMM4 Kz3 az2 HR4 hi0 Jz1 K'z1 az3 r0 r1 r2 r3 r4 r5 r6 r7 r8 r9 r10 r11 r12 r13 r14 r15 hrz az4
  obtain ⟨A, c, w6, hrun, hc13, hf13, hF⟩ := fin_init HR4.out HMM4.out hgs (by omega) 0
  have HRUN := Lib.hid hrun
  have HF := Lib.hid hF
  clear hrun hF
  go_wp2_with (at_builtin; refine Own.wpList_append_run rfl _ _ _ rfl HRUN.out (by rfl) (by rfl) ?_)
  all_goals go_meet
  exact ⟨rfl, HF⟩
theorem piece_4 : Pc.1.2.2.2.1 := by
  intro w x0_0 x0_1 x0_2 x0_3 x0_4 A1 c1 m1 A2 n2 c2 z2 l2 m2 a3 a4 a5 hv5 HE b Q'z1 Kz1 u12 u32z1 u33z1 u34z1 u35z1 u36z1 u37z1 u38z1 u39z1 u40z1 u41z1 u42z1 u43z1 u44z1 i l1 a hz1 hz2 hi hlt Q'z2 Kz2 az1 w1 q HMD gc W1 HB1 wc u23 u24 u25 u26 u27 u28 u29 u30 u31 u32 u33 u34 u35 u36 u37 u38 u39 u40 u41 u42 u43 u44 u45 u46 u47 u48 u49 u50 u51 u52 u53 u54 u55 u56 u57 u58 u59 u60 u61 u62 u63 u64 u65 u66 u67 u68 u69 u70 u71 u72 u73 u74 u75 u76 u77 u78 u79 u81 u82 u83 u84 u85 u86 u87 u88 u89 u90 u91 u92 u94 u95 u96 u97 u98 u99 u100 u102 u103 u104 u105 u106 u107 u109 u110 u112 u113 u114 u115 u116 u117 u118 u119 u120 u121 u122 u123 u124 u125 u126 u127 u128 u129 u130 u131 u132 u133 u134 u135 u136 u137 u138 u139 u140 u141 u143 u144 u145 u146 u147 u148 u149 u150 u151 u152 u153 u154 u155 u156 u158 u159 u160 u161 u162 u163 u164 u165 u166 u167 u168 u169 u170 u171 u172 u173 u174 u175 u176 u177 u178 u179 u180 u181 u182 u183 u184 u185 u186 u187 u188 u189 u190 u191 gs n Ai ci Ap cp Aq cq i0 xs vs ps ks zs hn1 hn3 hgs w4 HB4 HSM4 HMM4 Kz3 az2 HR4 hi0 Jz1 K'z1 az3 r0 r1 r2 r3 r4 r5 r6 r7 r8 r9 r10 r11 r12 r13 r14 r15 hrz az4
  have hF := Lib.hid (fin_nil HR4.out HMM4.out hgs)
  go_wp2_with fail
  all_goals go_meet
  exact ⟨rfl, hF⟩
theorem piece_5 : Pc.1.2.2.2.2.1 := by
  intro w x0_0 x0_1 x0_2 x0_3 x0_4 A1 c1 m1 A2 n2 c2 z2 l2 m2 a3 a4 a5 hv5 HE b Q'z1 Kz1 u12 u32z1 u33z1 u34z1 u35z1 u36z1 u37z1 u38z1 u39z1 u40z1 u41z1 u42z1 u43z1 u44z1 i l1 a hz1 hz2 hi hlt Q'z2 Kz2 az1 w1 q HMD gc W1 HB1 wc u23 u24 u25 u26 u27 u28 u29 u30 u31 u32 u33 u34 u35 u36 u37 u38 u39 u40 u41 u42 u43 u44 u45 u46 u47 u48 u49 u50 u51 u52 u53 u54 u55 u56 u57 u58 u59 u60 u61 u62 u63 u64 u65 u66 u67 u68 u69 u70 u71 u72 u73 u74 u75 u76 u77 u78 u79 u81 u82 u83 u84 u85 u86 u87 u88 u89 u90 u91 u92 u94 u95 u96 u97 u98 u99 u100 u102 u103 u104 u105 u106 u107 u109 u110 u112 u113 u114 u115 u116 u117 u118 u119 u120 u121 u122 u123 u124 u125 u126 u127 u128 u129 u130 u131 u132 u133 u134 u135 u136 u137 u138 u139 u140 u141 u143 u144 u145 u146 u147 u148 u149 u150 u151 u152 u153 u154 u155 u156 u158 u159 u160 u161 u162 u163 u164 u165 u166 u167 u168 u169 u170 u171 u172 u173 u174 u175 u176 u177 u178 u179 u180 u181 u182 u183 u184 u185 u186 u187 u188 u189 u190 u191 gs n Ai ci Ap cp Aq cq i0 xs vs ps ks zs hn1 hn3 hgs w4 HB4 HSM4 HMM4 Kz3 az2 HR4 hi0 Jz1 K'z1 az3 r0 r1 r2 r3 r4 r5 r6 r7 r8 r9 r10 r11 r12 r13 r14 r15 hrz az4
  obtain ⟨g0, cap0, cur0, hv0, hb0, hh0, hlt0, hcell0⟩ := Own.own_cells HSM4.out.pro (by omega)
  injection hv0 with e1 _ _
  subst e1
  have hnI : (0 : Int) < n := by omega
  have hnI2 : (n : Int) ≤ 1000 := by omega
  go_upto_region 24 with (go_at_call 12; (with_reducible refine (k_place_ex _ _ hnI hnI2 _).mono ?_); rintro e w6 ⟨y, y0, y1, rfl, rfl⟩)
  obtain ⟨k, hk⟩ : ∃ k : Nat, y = k := ⟨y.toNat, by omega⟩
  subst hk
  have hkn : k < n := by omega
  have hkI : (k : Int) < n := by omega
  have hpk : ps[k]? = some (ps[k]'(by rw [HSM4.out.pn]; exact hkn)) := List.getElem?_eq_getElem _
  obtain ⟨p, hp⟩ : ∃ p, ps[k]? = some p := ⟨_, hpk⟩
  obtain ⟨Ar, cr, hvk, hor, _⟩ := HSM4.out.pv.row k p hp
  have hc0 : w4.cell? ⟨g0, k, none⟩ = some (.slice Ar p.length cr) := (hcell0 k (by omega)).trans hvk
  clear hpk y0 y1
  by_cases hl : 0 < p.length
  · obtain ⟨g, cap, cur, hv, hbg, hh, hlt, hcl⟩ := Own.own_cells hor hl
    injection hv with e1 _ _
    subst e1
    have hlI : (0 : Int) < p.length := by omega
    have hlI2 : (p.length : Int) ≤ 1000 := by have := (HSM4.out.pv.row k p hp).choose_spec; obtain ⟨_, _, _, h6, _⟩ := this; omega
    have HOR := Lib.hid hor
    have HVK := Lib.hid hvk
    have HP := Lib.hid hp
    have hmg : Mem w4 g 31 cur := hh
    have hfz := hmg.frozen
    have hcell : ∀ y, y < p.length * 5 → ∃ z, w4.cell? ⟨g, y, none⟩ = some z := fun y hy => ⟨(PrgG.cellsI p)[y]'(by rw [hor.1]; exact hy), (hcl y hy).trans (List.getElem?_eq_getElem _)⟩
    have HCL := Lib.hid hcell
    have q1 := pl_in a5 p.length hlI hlI2
    obtain ⟨y, hy⟩ : ∃ y, pl a5 p.length = y := ⟨_, rfl⟩
    rw [hy] at q1
    obtain ⟨j, hj⟩ : ∃ j : Nat, y = j := ⟨y.toNat, by omega⟩
    subst hj
    have hjl : j < p.length := by omega
    have hjI : (j : Int) < p.length := by omega
    have q2 := pl_in a4 20 (by omega) (by omega)
    obtain ⟨o, ho⟩ : ∃ o, pl a4 20 = o := ⟨_, rfl⟩
    rw [ho] at q2
    have HPJ := Lib.hid hy
    have HPO := Lib.hid ho
    have hok : PrgS.OkI ⟨o, 0, 0, 0, 0⟩ := ⟨⟨by show _ ≤ o; omega, by show o ≤ _; omega⟩, ScrR.in0, ScrR.in0, ScrR.in0, ScrR.in0⟩
    have hF := (fin_prog (x := ⟨o, 0, 0, 0, 0⟩) hn3 HSM4.out HMM4.out hgs HP.out hjl HVK.out hok).drew
    simp only [ScrN.puts, List.foldl_cons, List.foldl_nil] at hF
    have HF := Lib.hid hF
    obtain ⟨z0, hz0⟩ := hcell (j * 5) (by omega)
    obtain ⟨z1, hz1⟩ := hcell (j * 5 + 1) (by omega)
    obtain ⟨z2', hz2⟩ := hcell (j * 5 + 2) (by omega)
    obtain ⟨z3, hz3⟩ := hcell (j * 5 + 3) (by omega)
    obtain ⟨z4, hz4⟩ := hcell (j * 5 + 4) (by omega)
    clear hh0 hh hcell0 hcl hor hvk hp hcell hF hy ho q1 q2
    go_upto_region 25 with fail
    have r14d : w4.drew.cell? ⟨gs, 14, none⟩ = some (.slice (some ⟨g0, 0, none⟩) n cp) := r14
    have hc0d : w4.drew.cell? ⟨g0, k, none⟩ = some (.slice (some ⟨g, 0, none⟩) p.length cr) := hc0
    go_region_law (first
      | (go_simp; go_at_call 12; (with_reducible refine (k_place a5 p.length j hlI hlI2 HPJ.out _).mono ?_); rintro e w6 ⟨rfl, rfl⟩)
      | (go_simp; go_at_call 12; (with_reducible refine (k_place a4 20 o (by omega) (by omega) HPO.out _).mono ?_); rintro e w6 ⟨rfl, rfl⟩))
    all_goals go_wp2_with fail
    all_goals go_meet
    all_goals exact ⟨rfl, HF⟩
  · have hl0 : p.length = 0 := by omega
    have hlI : ¬ (0 : Int) < p.length := by omega
    have hF : Hid (Fin W1 gs w4) := Lib.hid (fin_of HR4.out HMM4.out)
    go_wp2_with fail
    all_goals go_meet
    exact ⟨rfl, hF⟩
theorem piece_6 : Pc.1.2.2.2.2.2.1 := by
  intro w x0_0 x0_1 x0_2 x0_3 x0_4 A1 c1 m1 A2 n2 c2 z2 l2 m2 a3 a4 a5 hv5 HE b Q'z1 Kz1 u12 u32z1 u33z1 u34z1 u35z1 u36z1 u37z1 u38z1 u39z1 u40z1 u41z1 u42z1 u43z1 u44z1 i l1 a hz1 hz2 hi hlt Q'z2 Kz2 az1 w1 q HMD gc W1 HB1 wc u23 u24 u25 u26 u27 u28 u29 u30 u31 u32 u33 u34 u35 u36 u37 u38 u39 u40 u41 u42 u43 u44 u45 u46 u47 u48 u49 u50 u51 u52 u53 u54 u55 u56 u57 u58 u59 u60 u61 u62 u63 u64 u65 u66 u67 u68 u69 u70 u71 u72 u73 u74 u75 u76 u77 u78 u79 u81 u82 u83 u84 u85 u86 u87 u88 u89 u90 u91 u92 u94 u95 u96 u97 u98 u99 u100 u102 u103 u104 u105 u106 u107 u109 u110 u112 u113 u114 u115 u116 u117 u118 u119 u120 u121 u122 u123 u124 u125 u126 u127 u128 u129 u130 u131 u132 u133 u134 u135 u136 u137 u138 u139 u140 u141 u143 u144 u145 u146 u147 u148 u149 u150 u151 u152 u153 u154 u155 u156 u158 u159 u160 u161 u162 u163 u164 u165 u166 u167 u168 u169 u170 u171 u172 u173 u174 u175 u176 u177 u178 u179 u180 u181 u182 u183 u184 u185 u186 u187 u188 u189 u190 u191 gs n Ai ci Ap cp Aq cq i0 xs vs ps ks zs hn1 hn3 hgs w4 HB4 HSM4 HMM4 Kz3 az2 HR4 hi0 Jz1 K'z1 az3 r0 r1 r2 r3 r4 r5 r6 r7 r8 r9 r10 r11 r12 r13 r14 r15 hrz az4
  by_cases hn0 : 0 < n2
  · obtain ⟨g, cap, cur, hv, hbg, hh, hlt, hcl⟩ := Own.own_cells HR4.out.pic hn0
    injection hv with e1 _ _
    subst e1
    have hnI : (0 : Int) < n2 := by omega
    have hnI2 : (n2 : Int) ≤ 1000 := by omega
    have hmg : Mem w4 g 3 cur := hh
    have hfz := hmg.frozen
    have hzl : zs.length = n2 := by have := HR4.out.pic.1; simp at this; omega
    have hcl2 : ∀ j, j < n2 → ∃ z, w4.cell? ⟨g, j, none⟩ = some (.int .i64 z) := fun j hj => ⟨zs[j]'(by omega), by rw [hcl j (by omega), List.getElem?_map, List.getElem?_eq_getElem (by omega)]; rfl⟩
    have HC2 := Lib.hid hcl2
    clear hh hcl hcl2
    have hp := pl_in a4 n2 hnI hnI2
    obtain ⟨y, hy⟩ : ∃ y, pl a4 n2 = y := ⟨_, rfl⟩
    rw [hy] at hp
    obtain ⟨j, hj⟩ : ∃ j : Nat, y = j := ⟨y.toNat, by omega⟩
    subst hj
    have hjn : j < n2 := by omega
    have hjI : (j : Int) < n2 := by omega
    obtain ⟨z, hz⟩ := HC2.out j hjn
    have HF := Lib.hid ((fin_pick (v := a5) HR4.out HMM4.out hjn hv5).drew)
    have HPL := Lib.hid hy
    clear hy hp
    go_upto_region 28 with fail
    have r15d : w4.drew.cell? ⟨gs, 15, none⟩ = some (.slice (some ⟨g, 0, none⟩) n2 cq) := r15
    have hzd : w4.drew.cell? ⟨g, j, none⟩ = some (.int .i64 z) := hz
    have hfd : w4.drew.frozen? ⟨g, j, none⟩ = false := hfz j
    have hfw : w4.frozen? ⟨g, j, none⟩ = false := hfz j
    go_region_law (first
      | (go_simp; go_at_call 12; (with_reducible refine (k_place a4 n2 j hnI hnI2 HPL.out _).mono ?_); rintro e w6 ⟨rfl, rfl⟩))
    all_goals go_wp2_with fail
    all_goals go_meet
    all_goals exact ⟨rfl, HF⟩
  · have hlI : ¬ (0 : Int) < n2 := by omega
    have hF : Hid (Fin W1 gs w4) := Lib.hid (fin_of HR4.out HMM4.out)
    go_wp2_with fail
    all_goals go_meet
    exact ⟨rfl, hF⟩
theorem piece_7 : Pc.1.2.2.2.2.2.2.1 := by
  intro w x0_0 x0_1 x0_2 x0_3 x0_4 A1 c1 m1 A2 n2 c2 z2 l2 m2 a3 a4 a5 hv5 HE b Q'z1 Kz1 u12 u32z1 u33z1 u34z1 u35z1 u36z1 u37z1 u38z1 u39z1 u40z1 u41z1 u42z1 u43z1 u44z1 i l1 a hz1 hz2 hi hlt Q'z2 Kz2 az1 w1 q HMD gc W1 HB1 wc u23 u24 u25 u26 u27 u28 u29 u30 u31 u32 u33 u34 u35 u36 u37 u38 u39 u40 u41 u42 u43 u44 u45 u46 u47 u48 u49 u50 u51 u52 u53 u54 u55 u56 u57 u58 u59 u60 u61 u62 u63 u64 u65 u66 u67 u68 u69 u70 u71 u72 u73 u74 u75 u76 u77 u78 u79 u81 u82 u83 u84 u85 u86 u87 u88 u89 u90 u91 u92 u94 u95 u96 u97 u98 u99 u100 u102 u103 u104 u105 u106 u107 u109 u110 u112 u113 u114 u115 u116 u117 u118 u119 u120 u121 u122 u123 u124 u125 u126 u127 u128 u129 u130 u131 u132 u133 u134 u135 u136 u137 u138 u139 u140 u141 u143 u144 u145 u146 u147 u148 u149 u150 u151 u152 u153 u154 u155 u156 u158 u159 u160 u161 u162 u163 u164 u165 u166 u167 u168 u169 u170 u171 u172 u173 u174 u175 u176 u177 u178 u179 u180 u181 u182 u183 u184 u185 u186 u187 u188 u189 u190 u191 gs n Ai ci Ap cp Aq cq i0 xs vs ps ks zs hn1 hn3 hgs w4 HB4 HSM4 HMM4 Kz3 az2 HR4 hi0 Jz1 K'z1 az3 r0 r1 r2 r3 r4 r5 r6 r7 r8 r9 r10 r11 r12 r13 r14 r15 hrz az4
  have hp := pl_in a5 2 (by omega) (by omega)
  obtain ⟨y, hy⟩ : ∃ y, pl a5 2 = y := ⟨_, rfl⟩
  rw [hy] at hp
  have HPL := Lib.hid hy
  clear hy
  have hwy : IntKind.i64.wrap (65536 + y) = 65536 + y := IntWalk.i64_in _ (by omega)
  obtain ⟨m, hm⟩ : ∃ m : Nat, 65536 + y = m := ⟨(65536 + y).toNat, by omega⟩
  have hmk : (Instr.makeSlice 22 (.int .i64 (m : Int)) (.int .i64 (m : Int))).run Tryd.prog w4 = .ok (.slice (some ⟨w4.heap.size, 0, none⟩) m m) (w4.alloc (.cells (Array.replicate m (.int .i64 0)) 3)) := ScrR.make_i w4 m (by omega)
  have HF := Lib.hid (fin_zeros (m := m) HR4.out HMM4.out hgs (by omega) (by unfold maxLen; omega))
  have hgl := HMM4.out.lt
  go_wp2_with (go_at_call 12; (with_reducible refine (k_place a5 2 y (by omega) (by omega) HPL.out _).mono ?_); rintro e w6 ⟨rfl, rfl⟩)
  rw [World.setCell_alloc_past _ _ _ _ hgl] at HF
  all_goals go_meet
  exact ⟨rfl, HF⟩
theorem piece_8 : Pc.1.2.2.2.2.2.2.2.1 := by
  intro w x0_0 x0_1 x0_2 x0_3 x0_4 A1 c1 m1 A2 n2 c2 z2 l2 m2 a3 a4 a5 hv5 HE b Q'z1 Kz1 u12 u32z1 u33z1 u34z1 u35z1 u36z1 u37z1 u38z1 u39z1 u40z1 u41z1 u42z1 u43z1 u44z1 i l1 a hz1 hz2 hi hlt Q'z2 Kz2 az1 w1 q HMD gc W1 HB1 wc u23 u24 u25 u26 u27 u28 u29 u30 u31 u32 u33 u34 u35 u36 u37 u38 u39 u40 u41 u42 u43 u44 u45 u46 u47 u48 u49 u50 u51 u52 u53 u54 u55 u56 u57 u58 u59 u60 u61 u62 u63 u64 u65 u66 u67 u68 u69 u70 u71 u72 u73 u74 u75 u76 u77 u78 u79 u81 u82 u83 u84 u85 u86 u87 u88 u89 u90 u91 u92 u94 u95 u96 u97 u98 u99 u100 u102 u103 u104 u105 u106 u107 u109 u110 u112 u113 u114 u115 u116 u117 u118 u119 u120 u121 u122 u123 u124 u125 u126 u127 u128 u129 u130 u131 u132 u133 u134 u135 u136 u137 u138 u139 u140 u141 u143 u144 u145 u146 u147 u148 u149 u150 u151 u152 u153 u154 u155 u156 u158 u159 u160 u161 u162 u163 u164 u165 u166 u167 u168 u169 u170 u171 u172 u173 u174 u175 u176 u177 u178 u179 u180 u181 u182 u183 u184 u185 u186 u187 u188 u189 u190 u191 gs n Ai ci Ap cp Aq cq i0 xs vs ps ks zs hn1 hn3 hgs w4 HB4 HSM4 HMM4 Kz3 az2 HR4 hi0 Jz1 K'z1 az3 r0 r1 r2 r3 r4 r5 r6 r7 r8 r9 r10 r11 r12 r13 r14 r15 hrz az4
  have hp := pl_in a5 2 (by omega) (by omega)
  obtain ⟨y, hy⟩ : ∃ y, pl a5 2 = y := ⟨_, rfl⟩
  rw [hy] at hp
  have HPL := Lib.hid hy
  have hwy : IntKind.i64.wrap (16 + y) = 16 + y := IntWalk.i64_in _ (by omega)
  clear hy
  go_wp2_with fail
  go_loopw [] (fun wr => ∃ (m : Nat) (A : Option Addr) (c : Nat) (vs : List Value) (ps : List (List PrgS.I5)), m ≤ 20 ∧ RS3 W1 (.slice Ai i0 ci) (.slice A m c) (.slice Aq n2 cq) i0 m n2 xs vs ps zs wr ∧ Mem wr gs TS (scells q (.slice Ai i0 ci) (.slice A m c) (.slice Aq n2 cq))) (fun wr => 20 - lenAt gs wr)
  case atStart => exact ⟨n, Ap, cp, vs, ps, by omega, HR4.out, HMM4.out⟩
  case round =>
    obtain ⟨m, A, c, vs', ps', hm20, hr, hm⟩ := hrel
    have HR := Lib.hid hr
    have HM := Lib.hid hm
    have HL := Lib.hid (lenAt_of hm)
    clear hr hm r0 r1 r2 r3 r4 r5 r6 r7 r8 r9 r10 r11 r12 r13 r14 r15 hrz
    have r14 : wr.cell? ⟨gs, 14, none⟩ = some (.slice A m c) := HM.out.cell 14
    have r14d : wr.drew.cell? ⟨gs, 14, none⟩ = some (.slice A m c) := r14
    by_cases hlt : (m : Int) < 16 + y
    · obtain ⟨A6, c6, w6, hrun, hc14, hf14, hr6, hm6⟩ := rs_empty HR.out.drew HM.out hgs (by omega)
      have HR6 := Lib.hid hr6
      have HM6 := Lib.hid hm6
      have HL6 := Lib.hid (lenAt_of hm6)
      have HRUN := Lib.hid hrun
      clear hrun hr6 hm6
      go_upto_region 14 with fail
      go_region_law (first
        | (go_simp; go_at_call 12; (with_reducible refine (k_place a5 2 y (by omega) (by omega) HPL.out _).mono ?_); rintro e w7 ⟨rfl, rfl⟩))
      all_goals
        go_wp2_with (at_builtin; refine Own.wpList_append_run rfl _ _ _ rfl HRUN.out (by rfl) (by rfl) ?_)
        go_roundw
        case rel => exact ⟨m + 1, A6, c6, _, _, by omega, HR6.out, HM6.out⟩
        case measure => rw [HL6.out, HL.out]; omega
    · have hF : Hid (Fin W1 gs wr.drew) := Lib.hid (fin_of HR.out.drew HM.out)
      go_upto_region 14 with fail
      go_region_law (first
        | (go_simp; go_at_call 12; (with_reducible refine (k_place a5 2 y (by omega) (by omega) HPL.out _).mono ?_); rintro e w7 ⟨rfl, rfl⟩))
      all_goals go_wp2_with fail
      all_goals go_meet
      all_goals exact ⟨rfl, hF⟩
theorem piece_9 : Pc.1.2.2.2.2.2.2.2.2 := by
  intro w x0_0 x0_1 x0_2 x0_3 x0_4 A1 c1 m1 A2 n2 c2 z2 l2 m2 a3 a4 a5 hv5 HE b Q'z1 Kz1 u12 u32z1 u33z1 u34z1 u35z1 u36z1 u37z1 u38z1 u39z1 u40z1 u41z1 u42z1 u43z1 u44z1 i l1 a hz1 hz2 hi hlt Q'z2 Kz2 az1 w1 q HMD gc W1 HB1 wcz1 u23z1 u24z1 u25z1 u26z1 u27z1 u28z1 u29z1 u30z1 u31z1 u32z2 u33z2 u34z2 u35z2 u36z2 u37z2 u38z2 u39z2 u40z2 u41z2 u42z2 u43z2 u44z2 u45z1 u46z1 u47z1 u48z1 u49z1 u50z1 u51z1 u52z1 u53z1 u54z1 u55z1 u56z1 u57z1 u58z1 u59z1 u60z1 u61z1 u62z1 u63z1 u64z1 u65z1 u66z1 u67z1 u68z1 u69z1 u70z1 u71z1 u72z1 u73z1 u74z1 u75z1 u76z1 u77z1 u78z1 u79z1 u81z1 u82z1 u83z1 u84z1 u85z1 u86z1 u87z1 u88z1 u89z1 u90z1 u91z1 u92z1 u94z1 u95z1 u96z1 u97z1 u98z1 u99z1 u100z1 u102z1 u103z1 u104z1 u105z1 u106z1 u107z1 u109z1 u110z1 u112z1 u113z1 u114z1 u115z1 u116z1 u117z1 u118z1 u119z1 u120z1 u121z1 u122z1 u123z1 u124z1 u125z1 u126z1 u127z1 u128z1 u129z1 u130z1 u131z1 u132z1 u133z1 u134z1 u135z1 u136z1 u137z1 u138z1 u139z1 u140z1 u141z1 u143z1 u144z1 u145z1 u146z1 u147z1 u148z1 u149z1 u150z1 u151z1 u152z1 u153z1 u154z1 u155z1 u156z1 u158z1 u159z1 u160z1 u161z1 u162z1 u163z1 u164z1 u165z1 u166z1 u167z1 u168z1 u169z1 u170z1 u171z1 u172z1 u173z1 u174z1 u175z1 u176z1 u177z1 u178z1 u179z1 u180z1 u181z1 u182z1 u183z1 u184z1 u185z1 u186z1 u187z1 u188z1 u189z1 u190z1 u191z1 gs n Ai ci Ap cp Aq cq i0 xs vs ps ks zs hn1 hn3 hgs w4 HB4 HSM4 HMM4 Kz3 az2 u u0 u1 HR4 hi0 wc u19 u23 u24 u25 u26 u27 u28 u29 u30 u31 u32 u33 u34 u35 u36 u37 u38 u39 u40 u41 u42 u43 u44 u45 u46 u47 u48 u49 u50 u51 u52 u53 u54 u55 u56 u57 u58 u59 u60 u61 u62 u63 u64 u65 u66 u67 u68 u69 u70 u71 u72 u73 u74 u75 u76 u77 u78 u79 u81 u82 u83 u84 u85 u86 u87 u88 u89 u90 u91 u92 u93 u94 u95 u96 u97 u98 u99 u100 u101 u102 u103 u104 u105 u106 u107 u108 u109 u110 u111 u112 u113 u114 u115 u116 u117 u118 u119 u120 u121 u122 u123 u124 u125 u126 u127 u128 u129 u130 u131 u132 u133 u134 u135 u136 u137 u138 u139 u140 u141 u142 u143 u144 u145 u146 u147 u148 u149 u150 u151 u152 u153 u154 u155 u156 u157 u158 u159 u160 u161 u162 u163 u164 u165 u166 u167 u168 u169 u170 u171 u172 u173 u174 u175 u176 u177 u178 u179 u180 u181 u182 u183 u184 u185 u186 u187 u188 u189 u190 u191 HF
  obtain ⟨s9, Aj, cj, Aq, np, cq, Ak, nk, ck, hm9, hh9, hb9⟩ := HF.out
  obtain ⟨⟨t, u9, v9⟩, hcs⟩ : ∃ x, csV s9 = x := ⟨_, rfl⟩
  have HCS := Lib.hid hcs
  have HM9 := Lib.hid hm9
  have HH9 := Lib.hid hh9
  have HBw := Lib.hid (HB1.out.trans (hb9.mono HB1.out.size))
  have HEw := Lib.hid (HE.out.below HBw.out)
  obtain ⟨r0, r1, r2, r3, r4, r5, r6, r7, r8, r9, r10, r11, r12, r13, r14, r15⟩ := sbox_cells hm9
  clear hm9 hh9 hb9 hcs HF
  go_upto_region 32 with (go_at_call 18; (with_reducible refine (a_script s9 Aj cj Aq np cq Ak nk ck _ HEw.out HH9.out t u9 v9 HCS.out).mono ?_); rintro e w6 ⟨rfl, hb6⟩)
  have HB6 := Lib.hid (below_trans2 HBw.out hb6)
  have HM6 := Lib.hid (HM9.out.below hb6 HM9.out.lt)
  have HH6 := Lib.hid (HH9.out.old (.of_below hb6))
  clear hb6 HM9 HH9 HBw HEw r0 r1 r2 r3 r4 r5 r6 r7 r8 r9 r10 r11 r12 r13 r14 r15
  obtain ⟨r0, r1, r2, r3, r4, r5, r6, r7, r8, r9, r10, r11, r12, r13, r14, r15⟩ := sbox_cells HM6.out
  go_wp2_with (first
    | (go_at_call 20; (with_reducible refine (r_script s9 Aj cj Aq np cq Ak nk ck _ HH6.out t u9 v9 HCS.out).mono ?_); rintro e w7 ⟨rfl, hb7⟩; have HB7 := Lib.hid (below_trans2 HB6.out hb7); clear hb7)
    | (go_at_call 15; (with_reducible refine (l_awake _).mono ?_); rintro e w8 ⟨rfl, hb8⟩; have HB8 := Lib.hid (below_trans2 HB7.out hb8); clear hb8))
  go_ret
  exact ⟨rfl, Kept.of_below HB8.out⟩
theorem walk (w : World) (hL : laidMetH Tryd.prog [("strongtx/isa.shapes", Rows.laid_strongtx_isa_shapes)] w) (x0_0 x0_1 x0_2 x0_3 x0_4 : Int) (wx0_0 : LayS.InI x0_0) (wx0_1 : LayS.InI x0_1) (wx0_2 : LayS.InI x0_2) (wx0_3 : LayS.InI x0_3) (wx0_4 : LayS.InI x0_4) (A1 : Option Addr) (n1 c1 : Nat) (l1 : n1 ≤ c1) (m1 : c1 ≤ maxLen) (s1 : ScrN.LL w A1 n1) (A2 : Option Addr) (n2 c2 : Nat) (z2 : List Int) (l2 : n2 ≤ c2) (m2 : c2 ≤ maxLen) (s2 : Ints .i64 w A2 n2 z2) (a3 : Int) (w3 : (Lit.int .i64 a3).wf = true) (a4 : Int) (w4 : (Lit.int .i64 a4).wf = true) (a5 : Int) (w5 : (Lit.int .i64 a5).wf = true) :
    Calls Tryd.prog 6 #[.agg #[.int .i64 x0_0, .int .i64 x0_1, .int .i64 x0_2, .int .i64 x0_3, .int .i64 x0_4], .slice A1 n1 c1, .slice A2 n2 c2, .int .i64 a3, .int .i64 a4, .int .i64 a5] w fun e w' => e = .returned (.bool true) ∧ Kept w w' := Pc.2 ⟨piece_1⟩ ⟨piece_2⟩ ⟨piece_3⟩ ⟨piece_4⟩ ⟨piece_5⟩ ⟨piece_6⟩ ⟨piece_7⟩ ⟨piece_8⟩ ⟨piece_9⟩ w hL x0_0 x0_1 x0_2 x0_3 x0_4 wx0_0 wx0_1 wx0_2 wx0_3 wx0_4 A1 n1 c1 l1 m1 s1 A2 n2 c2 z2 l2 m2 s2 a3 w3 a4 w4 a5 w5

/-! The heap that the program's own initialisers leave meets the row's condition. -/
theorem door_met (os : Os) (args : Array Value) : laidMetH Tryd.prog [("strongtx/isa.shapes", Rows.laid_strongtx_isa_shapes)] ((World.doorLaid Tryd.prog 400 os).forCall (fun _ _ => 0) ⟨#[], args, []⟩).memory :=
  laidMetH_of_parts3 (fuel := 8) (laidMet_of_run' 8 (by kernel_rfl) (by kernel_rfl)) (by kernel_rfl) (by kernel_rfl)

/-! The row's step. -/
set_option maxRecDepth 100000 in
theorem lifted (os : Os) (started : os.Started) (H : Type) (enc : TypeId × Value → H) :
    ReturnsInHanded {} Tryd.checked os 6 .any (fun w args => (Rows.layoutSpoiledSpec.pre enc Tryd.prog Tryd.f6 Rows.layoutSpoiledRow.domain false w args ∧ laidMetH Tryd.prog [("strongtx/isa.shapes", Rows.laid_strongtx_isa_shapes)] w) ∧ sizedMet enc Tryd.prog Tryd.f6 (OpenSpec.ofChange Rows.layoutSpoiledSpec) false w args)
      (Rows.layoutSpoiledSpec.post enc Tryd.prog Tryd.f6 false true false false) := by
  refine returnsInHanded_of_change_and (C := Tryd.checked) (X := fun w _ => laidMetH Tryd.prog [("strongtx/isa.shapes", Rows.laid_strongtx_isa_shapes)] w) (fun _ _ _ hh h => h.of_heap hh) own started (by kernel_rfl) Tryd.func6
    (ChangeSpec.witness_shaped (enc := enc) (C := Tryd.checked) (os := os) (X := fun w _ => laidMetH Tryd.prog [("strongtx/isa.shapes", Rows.laid_strongtx_isa_shapes)] w) false (World.doorLaid Tryd.prog 400 os) #[.agg #[.int .i64 0, .int .i64 0, .int .i64 0, .int .i64 0, .int .i64 0], .slice none 0 0, .slice none 0 0, .int .i64 0, .int .i64 0, .int .i64 0] 8 rfl (World.shaped_of_RefB (by kernel_rfl) (by kernel_rfl)) (by kernel_rfl) (by kernel_rfl) (by kernel_rfl) (door_met os _)) ?_
  intro W base args ds gs before hval0 hW hcnd _ hL _
  have hval : ∀ (j : Nat) t v, Tryd.f6.params[j]? = some t → args[j]? = some v → Value.okWide Tryd.prog W .any base t v := hval0
  have hW' := hW
  obtain ⟨p, q, hA0, hV, rfl, hfz, hnd⟩ := hW
  have hA : DataW.TrodAll enc Tryd.prog W 0 (fun _ => true) true Tryd.f6.params.toList args.toList ds p := hA0
  rw [Tryd.params6] at hA hval
  obtain ⟨v0, vs0, d0, ds0, p0, q0, hargs, rfl, rfl, h0, r0⟩ := trodAll_cons hA
  obtain ⟨v1, vs1, d1, ds1, p1, q1, rfl, rfl, rfl, h1, r1⟩ := trodAll_cons r0
  obtain ⟨v2, vs2, d2, ds2, p2, q2, rfl, rfl, rfl, h2, r2⟩ := trodAll_cons r1
  obtain ⟨v3, vs3, d3, ds3, p3, q3, rfl, rfl, rfl, h3, r3⟩ := trodAll_cons r2
  obtain ⟨v4, vs4, d4, ds4, p4, q4, rfl, rfl, rfl, h4, r4⟩ := trodAll_cons r3
  obtain ⟨v5, vs5, d5, ds5, p5, q5, rfl, rfl, rfl, h5, r5⟩ := trodAll_cons r4
  obtain ⟨rfl, rfl, rfl⟩ := trodAll_nil r5
  obtain rfl : args = #[v0, v1, v2, v3, v4, v5] := by cases args; simp_all
  obtain ⟨rfl, rfl⟩ := trodVars_none hV
  have hk : ∀ W', Kept W W' → Rows.layoutSpoiledSpec.post enc Tryd.prog Tryd.f6 false true false false W #[v0, v1, v2, v3, v4, v5] (.bool true) W' := fun W' hb =>
    post_law laidOut readable rfl Tryd.underlying4 rfl hW' rfl hb
  clear hA0 hval0 hA hW'
  obtain ⟨x0_0, x0_1, x0_2, x0_3, x0_4, rfl, wx0_0, wx0_1, wx0_2, wx0_3, wx0_4⟩ := LayO.open_arr5 (hval 0 41 v0 rfl rfl) h0
  obtain ⟨A1, n1, c1, rfl, l1, m1, s1⟩ := ScrR.open_ll (hval 1 42 v1 rfl rfl) h1
  obtain ⟨A2, n2, c2, z2, rfl, l2, m2, s2⟩ := open_slice Tryd.underlying22 Tryd.underlying3 cells3 (hval 2 22 v2 rfl rfl) h2
  obtain ⟨a3, rfl, rfl, rfl, w3⟩ := open_int Tryd.underlying3 (hval 3 3 v3 rfl rfl) h3
  obtain ⟨a4, rfl, rfl, rfl, w4⟩ := open_int Tryd.underlying3 (hval 4 3 v4 rfl rfl) h4
  obtain ⟨a5, rfl, rfl, rfl, w5⟩ := open_int Tryd.underlying3 (hval 5 3 v5 rfl rfl) h5
  refine (walk W hL x0_0 x0_1 x0_2 x0_3 x0_4 wx0_0 wx0_1 wx0_2 wx0_3 wx0_4 A1 n1 c1 l1 m1 s1 A2 n2 c2 z2 l2 m2 s2 a3 w3 a4 w4 a5 w5).mono fun e W' ⟨he, hg⟩ => ?_
  subst he
  exact ⟨_, rfl, hk W' hg⟩

theorem over : Rows.layoutSpoiledRow.holds Tryd.pinned (OpenSpec.ofChange Rows.layoutSpoiledSpec) :=
  OpenClaim.holds_of_wide 6 Tryd.f6 rfl rfl rfl rfl rfl rfl rfl ⟨rfl, rfl, rfl, rfl, rfl⟩ rfl rfl rfl rfl rfl (by kernel_rfl) Tryd.func6 (by kernel_rfl)
    (of_decide_eq_true (by kernel_rfl)) (by unfold Func.isWrapper; first | (rw [if_pos (by decide +kernel)]; kernel_rfl) | (rw [if_neg (by decide +kernel)]; exact ⟨rfl, rfl⟩))
    (fun os started H enc _ => lifted os started H enc)

/-- The row. -/
theorem row : Rows.LayoutSpoiledSaid :=
  over

/-- The statement: the tied card. -/
theorem proved : Rows.LayoutSpoiledCardSaid :=
  Claim7.holds_tied_plain_at .later [] [.data] true (true, "38f59f8f3060a691bd598a7acc0f19158161a3a80ad834a34fe1782d22c2d8e1") false
    row (fun _ h => by cases h) (by kernel_rfl) (fun _ h => by cases h) layoutSpoiled_row_tie rfl ⟨rfl, rfl⟩ (by kernel_rfl) rfl
    (fun f fn hf hfn => by
      obtain rfl : f = 6 := Option.some.inj ((show Tryd.prog.funcNamed "strongtx/strongtxlaw07.LayoutSpoiled" = some 6 by kernel_rfl).symm.trans hf) |>.symm
      obtain rfl : fn = Tryd.f6 := (Option.some.inj (Tryd.func6.symm.trans hfn)).symm
      exact ⟨by kernel_rfl, fun j t ht => by
        rw [Tryd.params6] at ht
        have hm : t ∈ [41, 42, 22, 3, 3, 3] := by simpa using Array.mem_of_getElem? ht
        have hall : ([41, 42, 22, 3, 3, 3].all fun u => !Tryd.prog.wantsStandIn u) = true := by kernel_rfl
        exact (show Tryd.prog.wantsStandIn t = false by simpa using List.all_eq_true.1 hall t hm)⟩)
    (by kernel_rfl)
#print axioms proved
end Go.Proofs.YthnhmclnfgkppaaDoor.layoutSpoiled
