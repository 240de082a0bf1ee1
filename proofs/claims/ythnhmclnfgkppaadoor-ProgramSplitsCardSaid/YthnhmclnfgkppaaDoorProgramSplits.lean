/-
  Proved: in every made program each begin has its commit behind it, no other begin or commit lies between, and different transactions have no position in common (as Check and Commit say). No condition.
-/
import Derived.Test.YthnhmclnfgkppaaDoorRows
import Derived.WalkKit
import Derived.ProofKit
import Derived.OpenShut
import Derived.Test.YthnhmclnfgkppaaDoorFrame
import Derived.LaidMore
import Derived.Stop.Joined
import Derived.SevenTiedAt
import Derived.Test.YthnhmclnfgkppaaDoorTie
import Derived.Test.YthnhmclnfgkppaaDoorCards
import Derived.Test.YthnhmclnfgkppaaDoorPgO
import Derived.Test.YthnhmclnfgkppaaDoorPrgY
import Derived.Test.YthnhmclnfgkppaaDoorScrP
import Derived.Test.YthnhmclnfgkppaaDoorLayO
import Derived.Deep.DeepCutAuto
import Derived.Deep.CutBlock
namespace Go.Proofs.YthnhmclnfgkppaaDoor.programSplits
open Go.ChangeShapes Go.WideShapes Go.ChangeAt Go.RowKit
open LawFrame
open Go.ChangeMaps (open_string)
set_option linter.unusedVariables false

theorem own : ownKnob Tryd.prog.godebug = none := by kernel_rfl
theorem laidOut : laidOutB Tryd.prog = true := by kernel_rfl
theorem cells3 : Tryd.prog.cellsOf 3 = 1 := by kernel_rfl

open PlainT BlkW IsaE IsaS IsaA IsaB IsaF PrgS PrgC PgS PgT PgE PgF PgV PgO
set_option maxHeartbeats 4000000
set_option maxRecDepth 100000

theorem readable : ∀ t ∈ Tryd.f3.params.toList, Tryd.prog.readableRec t = true ∧ t < Tryd.prog.types.size := by
  have h : (Tryd.f3.params.toList.all fun t => Tryd.prog.readableRec t && decide (t < Tryd.prog.types.size)) = true := by kernel_rfl
  intro t ht
  have := List.all_eq_true.1 h t ht
  simpa using this

/-! The walk. -/
theorem walk (w : World) (hL : laidMetH Tryd.prog [("strongtx/isa.shapes", Rows.laid_strongtx_isa_shapes)] w) (A0 : Option Addr) (n0 c0 : Nat) (z0 : List Int) (l0 : n0 ≤ c0) (m0 : c0 ≤ maxLen) (s0 : Ints .i64 w A0 n0 z0) :
    Calls Tryd.prog 3 #[.slice A0 n0 c0] w fun e w' => e = .returned (.bool true) ∧ Kept w w' := by
  show Calls _ _ #[.slice A0 n0 c0] _ _
  have hE := env_of_laid hL
  clear hL
  have HE := Lib.hid hE
  have HI := Lib.hid s0
  clear hE s0
  by_cases hbig : 80 < n0
  · have hbI : (80 : Int) < n0 := by omega
    go_enter Tryd.func3, Tryd.ntmps3
    go_wp2_with (go_at_call 7; refine (l_awake _ HE.out).mono ?_; rintro e w4 ⟨rfl, hb4⟩; have HB4 := Lib.hid hb4; clear hb4)
    go_ret
    exact ⟨rfl, Kept.of_below HB4.out⟩
  · have hbI : ¬ (80 : Int) < n0 := by omega
    go_enter Tryd.func3, Tryd.ntmps3
    go_upto_region 4 with (go_at_call 8; refine (PrgY.k_program A0 n0 c0 z0 50 true true w l0 m0 (by omega) (by omega) HI.out).mono ?_; rintro e w1 ⟨A, c, ps, rfl, hgood, hb1⟩)
    obtain ⟨hl50, hrc, hok, hown⟩ := hgood
    have hR1 := OwnS.rowI_of_own hown
    obtain ⟨A1, c1, hee, hmc, hmx⟩ := Own.own_slice hown
    injection hee with e1 _ e2
    subst e1 e2
    have hv : Valid ps := valid_of (by rw [hrc])
    have hE1 := HE.out.below hb1
    obtain ⟨m, hm⟩ : ∃ m, ps.length = m := ⟨_, rfl⟩
    rw [hm] at hR1 hmc hl50 ⊢
    have HR1 := Lib.hid hR1
    have HV := Lib.hid hv
    have HE1 := Lib.hid hE1
    have HB1 := Lib.hid hb1
    have HMC := Lib.hid hmc
    have HMX := Lib.hid hmx
    have hchk := a_check A m c ps w1 hE1 hmc hmx hR1
    rw [hrc] at hchk
    have HCH := Lib.hid hchk
    have HL := Lib.hid hm
    clear hR1 hv hE1 hb1 hmc hmx hchk hrc hok hown hm
    go_upto_region 5 with (go_at_call 9; refine HCH.out.mono ?_; rintro e w2 ⟨rfl, hb2⟩; have HB2 := Lib.hid hb2; clear hb2)
    go_wp2_with fail
    go_loopw [6, 7] (fun lv kv wr => ∃ (k : Nat) (la : Int), kv = .int .i64 k ∧ lv = .int .i64 la ∧ k ≤ m ∧ Hid (∀ (j : Nat) (x : I5), k ≤ j → ps[j]? = some x → x.op = 7 → la < j) ∧ Hid (Below w1.heap.size w1 wr)) (fun _ kv _ => m - (intOf kv).toNat)
    case atStart => exact ⟨0, -1, rfl, rfl, by omega, Lib.hid (fun j x _ _ _ => by omega), HB2⟩
    case round =>
      obtain ⟨k, la, rfl, rfl, hk, hla, hbw⟩ := hrel
      by_cases hkm : k < m
      · have hkmI : (k : Int) < m := by omega
        have HRw := Lib.hid (HR1.out.below hbw.out)
        have hcm := PgF.a_commit A m c ps k wr (HE1.out.below hbw.out) HMC.out HMX.out HRw.out
        obtain ⟨g, off, rfl, hg, hcl⟩ := HR1.out.2 (by omega)
        have hcell : ∀ W, Below w1.heap.size w1 W → ∀ (j : Nat) (z : I5), ps[j]? = some z → W.cell? ⟨g, off + j * 5, none⟩ = some (.int .i64 z.op) := fun W hb j z hz => by
          obtain ⟨hj, hjz⟩ := List.getElem?_eq_some_iff.1 hz
          rw [← hjz]
          exact (hb.cell (p := ⟨g, off + j * 5, none⟩) hg).trans (hcl j hj).1
        have HC := Lib.hid hcell
        have hxk : ps[k]? = some (ps[k]'(by rw [HL.out]; exact hkm)) := List.getElem?_eq_getElem _
        obtain ⟨x, hx⟩ : ∃ x, ps[k]? = some x := ⟨_, hxk⟩
        have HX := Lib.hid hx
        clear hg hcl hcell hxk
        by_cases h7 : x.op = 7
        · obtain ⟨t, ht, ht1, hct, hkt, htl⟩ := HV.out.commitV_begin hx h7
          rw [hct] at hcm
          obtain ⟨cn, hcn⟩ : ∃ cn : Nat, t.2 = cn := ⟨t.2.toNat, by omega⟩
          rw [hcn] at hcm hkt htl
          have hlk : la < (k : Int) := hla.out k x (Nat.le_refl _) hx h7
          obtain ⟨jc, y, hy, hy8, hyc⟩ := tx_commit8 ht (by rw [hcn]; exact htl)
          obtain rfl : jc = cn := by omega
          have hjm : jc < m := by rw [← HL.out]; omega
          have hjmI : (jc : Int) < m := by omega
          have hins : ∀ (j : Nat) (z : I5), ps[j]? = some z → k < j → j < jc → z.op ≠ 7 ∧ z.op ≠ 8 := fun j z hz h1 h2 => HV.out.inside ht hz (by omega) (by omega)
          have HCM := Lib.hid hcm
          have HINS := Lib.hid hins
          have hnext : ∀ (j : Nat) (z : I5), k + 1 ≤ j → ps[j]? = some z → z.op = 7 → (jc : Int) < j := fun j z h1 hz h2 => by
            by_cases h3 : j < jc
            · exact absurd h2 (hins j z hz (by omega) h3).1
            · by_cases h4 : j = jc
              · subst h4
                rw [hy] at hz
                cases hz
                omega
              · omega
          have HN := Lib.hid hnext
          have HY := Lib.hid hy
          have hkj : k < jc := by omega
          have hkjI : (k : Int) < jc := by omega
          have H7 := Lib.hid h7
          have H8 := Lib.hid hy8
          clear hy8 hcm hins hnext hx hy h7 ht ht1 hct hcn hyc htl hla hkt
          have hlk' : ¬ (k : Int) ≤ la := by omega
          have hjk' : ¬ (jc : Int) ≤ k := by omega
          have hjm' : ¬ (m : Int) ≤ jc := by omega
          have hj0 : ¬ (jc : Int) < 0 := by omega
          go_upto_region 12 with (go_at_call 10; refine HCM.out.mono ?_; rintro e w3 ⟨rfl, hb3⟩; have HB3 := Lib.hid (hbw.out.trans (hb3.mono hbw.out.size)); clear hb3)
          have ck : w3.cell? ⟨g, off + k * 5, none⟩ = some (.int .i64 7) := by rw [← H7.out]; exact HC.out w3 HB3.out k x HX.out
          have cj : w3.cell? ⟨g, off + jc * 5, none⟩ = some (.int .i64 8) := by rw [← H8.out]; exact HC.out w3 HB3.out jc y HY.out
          go_wp2_with fail
          go_loopw [9] (fun iv wr => ∃ i : Nat, iv = .int .i64 i ∧ k + 1 ≤ i ∧ i ≤ jc ∧ wr = w3) (fun iv _ => jc - (intOf iv).toNat)
          case atStart => exact ⟨k + 1, by go_num, by omega, by omega, rfl⟩
          case round =>
            obtain ⟨i, rfl, hi1, hi2, rfl⟩ := hrel
            by_cases hij : i < jc
            · have hijI : (i : Int) < jc := by omega
              have hiI : (i : Int) < m := by omega
              have hzi : ps[i]? = some (ps[i]'(by rw [HL.out]; omega)) := List.getElem?_eq_getElem _
              obtain ⟨z, hz⟩ : ∃ z, ps[i]? = some z := ⟨_, hzi⟩
              obtain ⟨z7, z8⟩ := HINS.out i z hz (by omega) hij
              have ci := HC.out wr HB3.out i z hz
              have z7' : (z.op == 7) = false := beq_eq_false_iff_ne.2 z7
              have z8' : (z.op == 8) = false := beq_eq_false_iff_ne.2 z8
              clear hzi hz z7 z8
              go_wp2_with fail
              go_roundw
              case rel => exact ⟨i + 1, by go_num, by omega, by omega, by first | rfl | trivial⟩
              case measure => simp [intOf]; omega
            · obtain rfl : i = jc := by omega
              go_wp2_with fail
              go_roundw
              case rel => exact ⟨k + 1, i, by go_num, rfl, by omega, HN, HB3⟩
              case measure => simp [intOf]; omega
        · rw [PgV.commitV_other hx h7] at hcm
          have h7' : (x.op == 7) = false := beq_eq_false_iff_ne.2 h7
          have HCM := Lib.hid hcm
          have hn : Hid (∀ (j : Nat) (z : I5), k + 1 ≤ j → ps[j]? = some z → z.op = 7 → la < j) := Lib.hid fun j z h1 h2 h3 => hla.out j z (by omega) h2 h3
          clear hcm hx h7 hla
          go_upto_region 12 with (go_at_call 10; refine HCM.out.mono ?_; rintro e w3 ⟨rfl, hb3⟩; have HB3 := Lib.hid (hbw.out.trans (hb3.mono hbw.out.size)); clear hb3)
          have ck := HC.out w3 HB3.out k x HX.out
          go_wp2_with fail
          go_roundw
          case rel => exact ⟨k + 1, la, by go_num, rfl, by omega, hn, HB3⟩
          case measure => simp [intOf]; omega
      · obtain rfl : k = m := by omega
        go_wp2_with (go_at_call 7; refine (l_awake _ (HE1.out.below hbw.out)).mono ?_; rintro e w4 ⟨rfl, hb4⟩; have HB4 := Lib.hid ((HB1.out.trans (hbw.out.mono HB1.out.size)).trans (hb4.mono (HB1.out.trans (hbw.out.mono HB1.out.size)).size)); clear hb4)
        go_ret
        exact ⟨rfl, Kept.of_below HB4.out⟩

/-! The heap that the program's own initialisers leave meets the row's condition. -/
theorem door_met (os : Os) (args : Array Value) : laidMetH Tryd.prog [("strongtx/isa.shapes", Rows.laid_strongtx_isa_shapes)] ((World.doorLaid Tryd.prog 400 os).forCall (fun _ _ => 0) ⟨#[], args, []⟩).memory :=
  laidMetH_of_parts3 (fuel := 8) (laidMet_of_run' 8 (by kernel_rfl) (by kernel_rfl)) (by kernel_rfl) (by kernel_rfl)

/-! The row's step. -/
set_option maxRecDepth 100000 in
theorem lifted (os : Os) (started : os.Started) (H : Type) (enc : TypeId × Value → H) :
    ReturnsInHanded {} Tryd.checked os 3 .any (fun w args => (Rows.programSplitsSpec.pre enc Tryd.prog Tryd.f3 Rows.programSplitsRow.domain false w args ∧ laidMetH Tryd.prog [("strongtx/isa.shapes", Rows.laid_strongtx_isa_shapes)] w) ∧ sizedMet enc Tryd.prog Tryd.f3 (OpenSpec.ofChange Rows.programSplitsSpec) false w args)
      (Rows.programSplitsSpec.post enc Tryd.prog Tryd.f3 false true false false) := by
  refine returnsInHanded_of_change_and (C := Tryd.checked) (X := fun w _ => laidMetH Tryd.prog [("strongtx/isa.shapes", Rows.laid_strongtx_isa_shapes)] w) (fun _ _ _ hh h => h.of_heap hh) own started (by kernel_rfl) Tryd.func3
    (ChangeSpec.witness_shaped (enc := enc) (C := Tryd.checked) (os := os) (X := fun w _ => laidMetH Tryd.prog [("strongtx/isa.shapes", Rows.laid_strongtx_isa_shapes)] w) false (World.doorLaid Tryd.prog 400 os) #[.slice none 0 0] 8 rfl (World.shaped_of_RefB (by kernel_rfl) (by kernel_rfl)) (by kernel_rfl) (by kernel_rfl) (by kernel_rfl) (door_met os _)) ?_
  intro W base args ds gs before hval0 hW hcnd _ hL _
  have hval : ∀ (j : Nat) t v, Tryd.f3.params[j]? = some t → args[j]? = some v → Value.okWide Tryd.prog W .any base t v := hval0
  have hW' := hW
  obtain ⟨p, q, hA0, hV, rfl, hfz, hnd⟩ := hW
  have hA : DataW.TrodAll enc Tryd.prog W 0 (fun _ => true) true Tryd.f3.params.toList args.toList ds p := hA0
  rw [Tryd.params3] at hA hval
  obtain ⟨v0, vs0, d0, ds0, p0, q0, hargs, rfl, rfl, h0, r0⟩ := trodAll_cons hA
  obtain ⟨rfl, rfl, rfl⟩ := trodAll_nil r0
  obtain rfl : args = #[v0] := by cases args; simp_all
  obtain ⟨rfl, rfl⟩ := trodVars_none hV
  have hk : ∀ W', Kept W W' → Rows.programSplitsSpec.post enc Tryd.prog Tryd.f3 false true false false W #[v0] (.bool true) W' := fun W' hb =>
    post_law laidOut readable rfl Tryd.underlying4 rfl hW' rfl hb
  clear hA0 hval0 hA hW'
  obtain ⟨A0, n0, c0, z0, rfl, l0, m0, s0⟩ := open_slice Tryd.underlying22 Tryd.underlying3 cells3 (hval 0 22 v0 rfl rfl) h0
  refine (walk W hL A0 n0 c0 z0 l0 m0 s0).mono fun e W' ⟨he, hg⟩ => ?_
  subst he
  exact ⟨_, rfl, hk W' hg⟩

theorem over : Rows.programSplitsRow.holds Tryd.pinned (OpenSpec.ofChange Rows.programSplitsSpec) :=
  OpenClaim.holds_of_wide 3 Tryd.f3 rfl rfl rfl rfl rfl rfl rfl ⟨rfl, rfl, rfl, rfl, rfl⟩ rfl rfl rfl rfl rfl (by kernel_rfl) Tryd.func3 (by kernel_rfl)
    (of_decide_eq_true (by kernel_rfl)) (by unfold Func.isWrapper; first | (rw [if_pos (by decide +kernel)]; kernel_rfl) | (rw [if_neg (by decide +kernel)]; exact ⟨rfl, rfl⟩))
    (fun os started H enc _ => lifted os started H enc)

/-- The row. -/
theorem row : Rows.ProgramSplitsSaid :=
  over

/-- The statement: the tied card. -/
theorem proved : Rows.ProgramSplitsCardSaid :=
  Claim7.holds_tied_plain_at .later [] [.data] true (true, "38f59f8f3060a691bd598a7acc0f19158161a3a80ad834a34fe1782d22c2d8e1") false
    row (fun _ h => by cases h) (by kernel_rfl) (fun _ h => by cases h) programSplits_row_tie rfl ⟨rfl, rfl⟩ (by kernel_rfl) rfl
    (fun f fn hf hfn => by
      obtain rfl : f = 3 := Option.some.inj ((show Tryd.prog.funcNamed "strongtx/strongtxlaw06.ProgramSplits" = some 3 by kernel_rfl).symm.trans hf) |>.symm
      obtain rfl : fn = Tryd.f3 := (Option.some.inj (Tryd.func3.symm.trans hfn)).symm
      exact ⟨by kernel_rfl, fun j t ht => by
        rw [Tryd.params3] at ht
        have hm : t ∈ [22] := by simpa using Array.mem_of_getElem? ht
        have hall : ([22].all fun u => !Tryd.prog.wantsStandIn u) = true := by kernel_rfl
        exact (show Tryd.prog.wantsStandIn t = false by simpa using List.all_eq_true.1 hall t hm)⟩)
    (by kernel_rfl)
#print axioms proved
end Go.Proofs.YthnhmclnfgkppaaDoor.programSplits
