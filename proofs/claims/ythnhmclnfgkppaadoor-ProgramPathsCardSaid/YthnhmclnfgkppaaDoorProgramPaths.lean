/-
  Proved: no path through a made program executes more instructions than Longest tells, or reads and writes more in a transaction than Needs tells. No condition.
-/
import Derived.Test.YthnhmclnfgkppaaDoorRows
import Derived.WalkKit
import Derived.ProofKit
import Derived.OpenShut
import Derived.Test.YthnhmclnfgkppaaDoorFrame
import Derived.LaidMore
import Derived.Stop.Joined
import Derived.SevenTiedAt
import Derived.Test.YthnhmclnfgkppaaDoorTie
import Derived.Test.YthnhmclnfgkppaaDoorCards
import Derived.Test.YthnhmclnfgkppaaDoorPgM
import Derived.Test.YthnhmclnfgkppaaDoorPrgY
import Derived.Test.YthnhmclnfgkppaaDoorScrP
import Derived.Test.YthnhmclnfgkppaaDoorLayO
import Derived.Deep.DeepCutAuto
import Derived.Deep.CutBlock
namespace Go.Proofs.YthnhmclnfgkppaaDoor.programPaths
open Go.ChangeShapes Go.WideShapes Go.ChangeAt Go.RowKit
open LawFrame
open Go.ChangeMaps (open_string)
set_option linter.unusedVariables false

theorem own : ownKnob Tryd.prog.godebug = none := by kernel_rfl
theorem laidOut : laidOutB Tryd.prog = true := by kernel_rfl
theorem cells3 : Tryd.prog.cellsOf 3 = 1 := by kernel_rfl

open PlainT BlkW IsaE IsaS IsaA IsaB IsaF PrgS PrgC PrgG PgS PgT PgU PgE PgF PgV PgN PgO PgK PgJ PgM
set_option maxHeartbeats 8000000
set_option maxRecDepth 100000
/-- What Place gives. -/
def pl (a m : Int) : Int := wrap64 ((IntKind.u64.wrap a).tmod m)
theorem pl_in (a m : Int) (h0 : 0 < m) (h1 : m ≤ 1000) : 0 ≤ pl a m ∧ pl a m ≤ m - 1 := by
  have hu : 0 ≤ IntKind.u64.wrap a := (bounds_u64 (wf_wrap .u64 a)).1
  unfold pl
  rw [Int.tmod_eq_emod_of_nonneg hu]
  have a0 := Int.emod_nonneg (IntKind.u64.wrap a) (by omega : m ≠ 0)
  have a1 := Int.emod_lt_of_pos (IntKind.u64.wrap a) h0
  rw [IntWalk.wrap64_in _ (by omega)]
  omega
theorem k_place_ex (a m : Int) (h0 : 0 < m) (h1 : m ≤ 1000) (w : World) : Calls Tryd.prog 12 #[.int .i64 a, .int .i64 m] w fun e w' => ∃ v, 0 ≤ v ∧ v ≤ m - 1 ∧ e = .returned (.int .i64 v) ∧ w = w' := by
  obtain ⟨v, hv⟩ : ∃ v, pl a m = v := ⟨_, rfl⟩
  have hin := pl_in a m h0 h1
  rw [hv] at hin
  have hw : IntKind.u64.wrap m = m := Int.emod_eq_of_lt (by omega) (by show m < 18446744073709551616; omega)
  have hv2 : wrap64 ((IntKind.u64.wrap a).tmod m) = v := hv
  clear hv
  go_enter Tryd.func12, Tryd.ntmps12
  go_wp2
  go_ret
  exact ⟨v, hin.1, hin.2, by rw [← hv2]; rfl, rfl⟩
theorem commitV_neg (ps : List I5) : commitV ps (-1) = -1 := by
  unfold commitV
  split
  · rfl
  · rw [find_no (fun t ht => ?_)]
    unfold isAt
    refine decide_eq_false fun e => ?_
    obtain ⟨j, y, h1, h2, h3⟩ := tx_begin ht
    omega

theorem readable : ∀ t ∈ Tryd.f4.params.toList, Tryd.prog.readableRec t = true ∧ t < Tryd.prog.types.size := by
  have h : (Tryd.f4.params.toList.all fun t => Tryd.prog.readableRec t && decide (t < Tryd.prog.types.size)) = true := by kernel_rfl
  intro t ht
  have := List.all_eq_true.1 h t ht
  simpa using this

/-! The walk. -/
theorem walk (w : World) (hL : laidMetH Tryd.prog [("strongtx/isa.shapes", Rows.laid_strongtx_isa_shapes)] w) (A0 : Option Addr) (n0 c0 : Nat) (z0 : List Int) (l0 : n0 ≤ c0) (m0 : c0 ≤ maxLen) (s0 : Ints .i64 w A0 n0 z0) (A1 : Option Addr) (n1 c1 : Nat) (l1 : n1 ≤ c1) (m1 : c1 ≤ maxLen) (s1 : PgM.Bools w A1 n1) (a2 : Int) (w2 : (Lit.int .i64 a2).wf = true) :
    Calls Tryd.prog 4 #[.slice A0 n0 c0, .slice A1 n1 c1, .int .i64 a2] w fun e w' => e = .returned (.bool true) ∧ Kept w w' := by
  show Calls _ _ #[.slice A0 n0 c0, .slice A1 n1 c1, .int .i64 a2] _ _
  have hE := env_of_laid hL
  clear hL
  have HE := Lib.hid hE
  have HI := Lib.hid s0
  have HBO := Lib.hid s1
  unfold maxLen at m1
  clear hE s0 s1 w2
  by_cases hbig : 80 < n0
  · have hbI : (80 : Int) < n0 := by omega
    go_enter Tryd.func4, Tryd.ntmps4
    go_wp2_with (go_at_call 7; refine (l_awake _ HE.out).mono ?_; rintro e w4 ⟨rfl, hb4⟩; have HB4 := Lib.hid hb4; clear hb4)
    go_ret
    exact ⟨rfl, Kept.of_below HB4.out⟩
  · have hbI : ¬ (80 : Int) < n0 := by omega
    go_enter Tryd.func4, Tryd.ntmps4
    go_upto_region 4 with (go_at_call 8; refine (PrgY.k_program A0 n0 c0 z0 50 true true w l0 m0 (by omega) (by omega) HI.out).mono ?_; rintro e w1 ⟨A, c, ps, rfl, hgood, hb1⟩)
    obtain ⟨hl50, hrc, hok, hown⟩ := hgood
    have hR1 := OwnS.rowI_of_own hown
    obtain ⟨A4, c4, hee, hmc, hmx⟩ := Own.own_slice hown
    injection hee with e1 _ e2
    subst e1 e2
    have hv : Valid ps := valid_of (by rw [hrc])
    have hE1 := HE.out.below hb1
    have hbo1 := HBO.out.below hb1
    obtain ⟨m, hm⟩ : ∃ m, ps.length = m := ⟨_, rfl⟩
    rw [hm] at hR1 hmc hl50 ⊢
    have HR1 := Lib.hid hR1
    have HV := Lib.hid hv
    have HE1 := Lib.hid hE1
    have HB1 := Lib.hid hb1
    have HBO1 := Lib.hid hbo1
    have HMC := Lib.hid hmc
    have HMX := Lib.hid hmx
    have HL := Lib.hid hm
    clear hR1 hv hE1 hb1 hbo1 hmc hmx hrc hok hown hm
    by_cases hm0 : m = 0
    · subst hm0
      have hz : ∀ R, PgV.Rest ps wOne 0 (((0 : Nat) : Int) - 1) R → R 0 = 0 := fun R h => h.out 0 (by omega)
      have HZ := Lib.hid hz
      clear hz
      go_wp2_with (first
        | (go_at_call 11; refine (a_longest A 0 c ps _ HE1.out HMC.out HMX.out HR1.out HV.out).mono ?_; rintro e w2 ⟨⟨R, hr, _, rfl⟩, hb2⟩; rw [HZ.out R hr]; have HB2 := Lib.hid (HB1.out.trans (hb2.mono HB1.out.size)); clear hr hb2)
        | (go_at_call 7; refine (l_awake _ (HE.out.below HB2.out)).mono ?_; rintro e w4 ⟨rfl, hb4⟩; have HB4 := Lib.hid (HB2.out.trans (hb4.mono HB2.out.size)); clear hb4))
      go_ret
      exact ⟨rfl, Kept.of_below HB4.out⟩
    · have hm0I : ¬ (m : Int) = 0 := by omega
      have hm0' : ((m : Int) == 0) = false := beq_eq_false_iff_ne.2 hm0I
      go_upto_region 7 with (go_at_call 12; (with_reducible refine (k_place_ex _ _ (by omega) (by omega) _).mono ?_); rintro e w2 ⟨y, h0, h1, rfl, rfl⟩)
      obtain ⟨k, rfl⟩ : ∃ k : Nat, y = k := ⟨y.toNat, by omega⟩
      have hkm : k < m := by omega
      have hkI : (k : Int) < m := by omega
      obtain ⟨g, off, x, rfl, hg, hx, y0, _, _, _, _⟩ := HR1.out.at hkm
      have HX := Lib.hid hx
      clear hg hx
      by_cases h7 : x.op = 7
      · obtain ⟨t, ht, ht1, hct, hkt, htl⟩ := HV.out.commitV_begin HX.out h7
        obtain ⟨cm, hcm⟩ : ∃ cm, t.2 = cm := ⟨_, rfl⟩
        rw [hcm] at hct hkt htl
        have htx : TX ps k cm := ⟨by rw [← ht1, ← hcm]; exact ht, hkt, htl, fun z hz => by rw [HX.out] at hz; cases hz; exact h7⟩
        have hwk := l_walk (some ⟨g, off, none⟩) m c A1 n1 c1 ps k cm w1 HMC.out HMX.out l1 m1 HR1.out HV.out HBO1.out htl (fun kn e => by
          obtain rfl : kn = k := by omega
          exact htx) (by omega)
        have htl' : cm < m := by rw [← HL.out]; exact htl
        have hnd := fun W (hb : Below w1.heap.size w1 W) => a_needs (some ⟨g, off, none⟩) m c ps k cm W (HE1.out.below hb) HMC.out HMX.out (HR1.out.below hb) HV.out hct hkt htl'
        have hend : ∀ n r v at_ ins, WI ps k cm n r v at_ ins → ∀ R1 R2, PgV.Rest ps wRd k cm R1 → PgV.Rest ps wWr k cm R2 → r ≤ R1 k ∧ v ≤ R2 k := fun n r v at_ ins h R1 R2 h1 h2 => ⟨jq_end htl (nn_rd ps) h.2.1 rfl h1, jq_end htl (nn_wr HV.out) h.2.2 rfl h2⟩
        have HWK := Lib.hid hwk
        have HND := Lib.hid hnd
        have HEND := Lib.hid hend
        rw [h7] at y0
        clear h7 ht ht1 hct hcm htx hwk hnd hend hkt htl htl'
        go_upto_region 10 with (go_at_call 13; refine HWK.out.mono ?_; rintro e w3 ⟨⟨n, r, v, at_, ins, hwi, rfl⟩, hb3⟩; have HWI := Lib.hid hwi; have HB3 := Lib.hid hb3; clear hwi hb3)
        go_upto_region 11 with (go_at_call 14; refine (HND.out _ HB3.out).mono ?_; rintro e w4 ⟨⟨R1, R2, R3, R4, r1, r2, _, _, rfl⟩, hb4⟩; obtain ⟨q1, q2⟩ := HEND.out n r v at_ ins HWI.out R1 R2 r1 r2; have HB4 := Lib.hid (HB3.out.trans (hb4.mono HB3.out.size)); clear r1 r2 hb4)
        go_wp2_with (first
          | (go_at_call 11; refine (a_longest _ m c ps _ (HE1.out.below HB4.out) HMC.out HMX.out (HR1.out.below HB4.out) HV.out).mono ?_; rintro e w5 ⟨⟨R, hr, _, rfl⟩, hb5⟩; have q3 := wi_end HV.out HWI.out R (by rw [HL.out]; exact hr); have HB5 := Lib.hid (HB4.out.trans (hb5.mono HB4.out.size)); clear hr hb5)
          | (go_at_call 7; refine (l_awake _ (HE1.out.below HB5.out)).mono ?_; rintro e w6 ⟨rfl, hb6⟩; have HB6 := Lib.hid (HB1.out.trans ((HB5.out.trans (hb6.mono HB5.out.size)).mono HB1.out.size)); clear hb6))
        go_ret
        exact ⟨rfl, Kept.of_below HB6.out⟩
      · have hlt0 : (-1 : Int) < ps.length := by omega
        have hwk := l_walk (some ⟨g, off, none⟩) m c A1 n1 c1 ps (-1) (-1) w1 HMC.out HMX.out l1 m1 HR1.out HV.out HBO1.out hlt0 (fun kn e => by omega) (by omega)
        have hnd := fun W (hb : Below w1.heap.size w1 W) => a_needs_none (some ⟨g, off, none⟩) m c ps (-1) W (HE1.out.below hb) HMC.out HMX.out (HR1.out.below hb) (commitV_neg ps)
        have HWK := Lib.hid hwk
        have HND := Lib.hid hnd
        have h7' : (x.op != 7) = true := bne_iff_ne.2 h7
        clear h7 hwk hnd hlt0
        go_upto_region 10 with (go_at_call 13; refine HWK.out.mono ?_; rintro e w3 ⟨⟨n, r, v, at_, ins, hwi, rfl⟩, hb3⟩; obtain ⟨_, rfl⟩ := hwi.2.1.1 rfl; obtain ⟨_, rfl⟩ := hwi.2.2.1 rfl; have HWI := Lib.hid hwi; have HB3 := Lib.hid hb3; clear hwi hb3)
        go_upto_region 11 with (go_at_call 14; refine (HND.out _ HB3.out).mono ?_; rintro e w4 ⟨rfl, hb4⟩; have HB4 := Lib.hid (HB3.out.trans (hb4.mono HB3.out.size)); clear hb4)
        go_wp2_with (first
          | (go_at_call 11; refine (a_longest _ m c ps _ (HE1.out.below HB4.out) HMC.out HMX.out (HR1.out.below HB4.out) HV.out).mono ?_; rintro e w5 ⟨⟨R, hr, _, rfl⟩, hb5⟩; have q3 := wi_end HV.out HWI.out R (by rw [HL.out]; exact hr); have HB5 := Lib.hid (HB4.out.trans (hb5.mono HB4.out.size)); clear hr hb5)
          | (go_at_call 7; refine (l_awake _ (HE1.out.below HB5.out)).mono ?_; rintro e w6 ⟨rfl, hb6⟩; have HB6 := Lib.hid (HB1.out.trans ((HB5.out.trans (hb6.mono HB5.out.size)).mono HB1.out.size)); clear hb6))
        go_ret
        exact ⟨rfl, Kept.of_below HB6.out⟩

/-! The heap that the program's own initialisers leave meets the row's condition. -/
theorem door_met (os : Os) (args : Array Value) : laidMetH Tryd.prog [("strongtx/isa.shapes", Rows.laid_strongtx_isa_shapes)] ((World.doorLaid Tryd.prog 400 os).forCall (fun _ _ => 0) ⟨#[], args, []⟩).memory :=
  laidMetH_of_parts3 (fuel := 8) (laidMet_of_run' 8 (by kernel_rfl) (by kernel_rfl)) (by kernel_rfl) (by kernel_rfl)

/-! The row's step. -/
set_option maxRecDepth 100000 in
theorem lifted (os : Os) (started : os.Started) (H : Type) (enc : TypeId × Value → H) :
    ReturnsInHanded {} Tryd.checked os 4 .any (fun w args => (Rows.programPathsSpec.pre enc Tryd.prog Tryd.f4 Rows.programPathsRow.domain false w args ∧ laidMetH Tryd.prog [("strongtx/isa.shapes", Rows.laid_strongtx_isa_shapes)] w) ∧ sizedMet enc Tryd.prog Tryd.f4 (OpenSpec.ofChange Rows.programPathsSpec) false w args)
      (Rows.programPathsSpec.post enc Tryd.prog Tryd.f4 false true false false) := by
  refine returnsInHanded_of_change_and (C := Tryd.checked) (X := fun w _ => laidMetH Tryd.prog [("strongtx/isa.shapes", Rows.laid_strongtx_isa_shapes)] w) (fun _ _ _ hh h => h.of_heap hh) own started (by kernel_rfl) Tryd.func4
    (ChangeSpec.witness_shaped (enc := enc) (C := Tryd.checked) (os := os) (X := fun w _ => laidMetH Tryd.prog [("strongtx/isa.shapes", Rows.laid_strongtx_isa_shapes)] w) false (World.doorLaid Tryd.prog 400 os) #[.slice none 0 0, .slice none 0 0, .int .i64 0] 8 rfl (World.shaped_of_RefB (by kernel_rfl) (by kernel_rfl)) (by kernel_rfl) (by kernel_rfl) (by kernel_rfl) (door_met os _)) ?_
  intro W base args ds gs before hval0 hW hcnd _ hL _
  have hval : ∀ (j : Nat) t v, Tryd.f4.params[j]? = some t → args[j]? = some v → Value.okWide Tryd.prog W .any base t v := hval0
  have hW' := hW
  obtain ⟨p, q, hA0, hV, rfl, hfz, hnd⟩ := hW
  have hA : DataW.TrodAll enc Tryd.prog W 0 (fun _ => true) true Tryd.f4.params.toList args.toList ds p := hA0
  rw [Tryd.params4] at hA hval
  obtain ⟨v0, vs0, d0, ds0, p0, q0, hargs, rfl, rfl, h0, r0⟩ := trodAll_cons hA
  obtain ⟨v1, vs1, d1, ds1, p1, q1, rfl, rfl, rfl, h1, r1⟩ := trodAll_cons r0
  obtain ⟨v2, vs2, d2, ds2, p2, q2, rfl, rfl, rfl, h2, r2⟩ := trodAll_cons r1
  obtain ⟨rfl, rfl, rfl⟩ := trodAll_nil r2
  obtain rfl : args = #[v0, v1, v2] := by cases args; simp_all
  obtain ⟨rfl, rfl⟩ := trodVars_none hV
  have hk : ∀ W', Kept W W' → Rows.programPathsSpec.post enc Tryd.prog Tryd.f4 false true false false W #[v0, v1, v2] (.bool true) W' := fun W' hb =>
    post_law laidOut readable rfl Tryd.underlying4 rfl hW' rfl hb
  clear hA0 hval0 hA hW'
  obtain ⟨A0, n0, c0, z0, rfl, l0, m0, s0⟩ := open_slice Tryd.underlying22 Tryd.underlying3 cells3 (hval 0 22 v0 rfl rfl) h0
  obtain ⟨A1, n1, c1, rfl, l1, m1, s1⟩ := PgM.open_bl (hval 1 33 v1 rfl rfl) h1
  obtain ⟨a2, rfl, rfl, rfl, w2⟩ := open_int Tryd.underlying3 (hval 2 3 v2 rfl rfl) h2
  refine (walk W hL A0 n0 c0 z0 l0 m0 s0 A1 n1 c1 l1 m1 s1 a2 w2).mono fun e W' ⟨he, hg⟩ => ?_
  subst he
  exact ⟨_, rfl, hk W' hg⟩

theorem over : Rows.programPathsRow.holds Tryd.pinned (OpenSpec.ofChange Rows.programPathsSpec) :=
  OpenClaim.holds_of_wide 4 Tryd.f4 rfl rfl rfl rfl rfl rfl rfl ⟨rfl, rfl, rfl, rfl, rfl⟩ rfl rfl rfl rfl rfl (by kernel_rfl) Tryd.func4 (by kernel_rfl)
    (of_decide_eq_true (by kernel_rfl)) (by unfold Func.isWrapper; first | (rw [if_pos (by decide +kernel)]; kernel_rfl) | (rw [if_neg (by decide +kernel)]; exact ⟨rfl, rfl⟩))
    (fun os started H enc _ => lifted os started H enc)

/-- The row. -/
theorem row : Rows.ProgramPathsSaid :=
  over

/-- The statement: the tied card. -/
theorem proved : Rows.ProgramPathsCardSaid :=
  Claim7.holds_tied_plain_at .later [] [.data] true (true, "38f59f8f3060a691bd598a7acc0f19158161a3a80ad834a34fe1782d22c2d8e1") false
    row (fun _ h => by cases h) (by kernel_rfl) (fun _ h => by cases h) programPaths_row_tie rfl ⟨rfl, rfl⟩ (by kernel_rfl) rfl
    (fun f fn hf hfn => by
      obtain rfl : f = 4 := Option.some.inj ((show Tryd.prog.funcNamed "strongtx/strongtxlaw06.ProgramPaths" = some 4 by kernel_rfl).symm.trans hf) |>.symm
      obtain rfl : fn = Tryd.f4 := (Option.some.inj (Tryd.func4.symm.trans hfn)).symm
      exact ⟨by kernel_rfl, fun j t ht => by
        rw [Tryd.params4] at ht
        have hm : t ∈ [22, 33, 3] := by simpa using Array.mem_of_getElem? ht
        have hall : ([22, 33, 3].all fun u => !Tryd.prog.wantsStandIn u) = true := by kernel_rfl
        exact (show Tryd.prog.wantsStandIn t = false by simpa using List.all_eq_true.1 hall t hm)⟩)
    (by kernel_rfl)
#print axioms proved
end Go.Proofs.YthnhmclnfgkppaaDoor.programPaths
