/-
  Contract of package program: checkAt.
-/
import Derived.Test.YthnhmclnfgkppaaDoorPgC
import Derived.Deep.DeepCutAuto
namespace Go.Proofs.YthnhmclnfgkppaaDoor.PgD
open Go.ChangeShapes Go.WideShapes Go.ChangeAt Go.RowKit
open PlainT IsaE IsaS BlkW IsaA IsaB IsaF PrgS PrgC PgS PgB PgT PgU PgC
set_option linter.unusedVariables false
set_option maxHeartbeats 1000000

def nestO (x : I5) (o : Bool) : Bool := (decide (x.op = 7) && o) || (decide (x.op = 8) && !o)
def plO (p : Int) (o : Bool) : Bool := (decide (p = 1) && !o) || (decide (p = 2) && o)
set_option maxHeartbeats 4000000 in
set_option maxRecDepth 100000 in
theorem a_checkAt {A : Option Addr} {m c : Nat} {ps : List I5} {k : Nat} {x : I5} {e0 : Int} (hx : ps[k]? = some x) (hv : caV ps k x = e0) (w : World) (hE : Env w) (hm : m ≤ c) (hmx : c ≤ maxLen) (hk : k < m) (hk64 : k ≤ 64) (hR : RowI w A m ps) :
    Calls Tryd.prog 24 #[.slice A m c, .int .i64 k] w fun e W' => e = .returned (.int .i64 e0) ∧ Below w.heap.size w W' := by
  have hmx2 := hmx
  unfold maxLen at hmx2
  have HR := Lib.hid hR
  have HX := Lib.hid hx
  obtain ⟨g, off, x', rfl, hg, hx', c0, c1, c2, c3, c4⟩ := hR.at hk
  obtain rfl : x = x' := by rw [hx] at hx'; injection hx'
  clear hR hx hx'
  unfold caV at hv
  obtain ⟨v0, hv0⟩ : ∃ v0, chk x.op x.a x.b x.c x.i = v0 := ⟨_, rfl⟩
  rw [show chkI x = v0 from hv0] at hv
  obtain ⟨o, ho⟩ : ∃ o, (aroundV ps k).isSome = o := ⟨_, rfl⟩
  rw [ho] at hv
  obtain ⟨p, hp⟩ : ∃ p, placeV x.op x.a x.b x.c x.i = p := ⟨_, rfl⟩
  rw [show plI x = p from hp] at hv
  obtain ⟨y, hy⟩ : ∃ y, skipsB x.op x.a x.b x.c x.i = y := ⟨_, rfl⟩
  obtain ⟨sv, hsv⟩ : ∃ sv, skipsV x.op x.a x.b x.c x.i = sv := ⟨_, rfl⟩
  have hs0 := (skV_ok x).1
  have hs1 := (skV_ok x).2
  rw [show skV x = sv from hsv] at hs0 hs1 hv
  rw [show skB x = y from hy] at hv
  obtain ⟨pm, hpm⟩ : ∃ pm, permV ps k (k + 1 + sv) = pm := ⟨_, rfl⟩
  rw [hpm] at hv
  have HV := Lib.hid hv
  have H0 := Lib.hid hv0
  have HO := Lib.hid ho
  have HP := Lib.hid hp
  have HY := Lib.hid hy
  have HSV := Lib.hid hsv
  have HPM := Lib.hid hpm
  have HM := Lib.hid hm
  clear hv hv0 ho hp hy hsv hpm
  go_enter Tryd.func24, Tryd.ntmps24
  go_wp2_with fail
  refine (a_check_v H0.out _ hE).mono ?_
  rintro e w1 ⟨rfl, hb1⟩
  have HR1 := Lib.hid (HR.out.below hb1)
  have HE1 := Lib.hid (hE.below hb1)
  have HB1 := Lib.hid hb1
  clear c0 c1 c2 c3 c4 hb1 hE
  by_cases hz : v0 = 0
  · subst hz
    have hv1 := HV.out
    rw [if_neg (by simp)] at hv1
    have HV1 := Lib.hid hv1
    clear hv1 HV
    go_wp2_with fail
    refine (around_b HO.out _ HM.out hmx HR1.out).mono ?_
    rintro e w2 ⟨u, z, rfl, hb2⟩
    have HB2 := Lib.hid ((HB1.out.trans (hb2.mono HB1.out.size)).alloc (HB1.out.trans (hb2.mono HB1.out.size)).size (.cells #[.int .i64 u, .int .i64 z] 65))
    have HR2 := Lib.hid (HR.out.below HB2.out)
    have HE2 := Lib.hid ((HE1.out.below hb2).alloc (.cells #[.int .i64 u, .int .i64 z] 65))
    clear hb2
    obtain ⟨W2, hW2⟩ : ∃ W2, W2 = w2.alloc (.cells #[.int .i64 u, .int .i64 z] 65) := ⟨_, rfl⟩
    rw [← hW2] at HB2 HR2 HE2
    have HW2 := Lib.hid hW2
    clear hW2
    go_upto_region 5 with fail
    rw [← HW2.out]
    obtain ⟨g', off', x', hA', hg', hx', c0, c1, c2, c3, c4⟩ := HR2.out.at hk
    obtain rfl : x = x' := by rw [HX.out] at hx'; injection hx'
    simp only [Option.some.injEq, Addr.mk.injEq, and_true] at hA'
    obtain ⟨rfl, rfl⟩ := hA'
    clear hx'
    go_cut [45] (fun bv wc => bv = .bool (nestO x o) ∧ wc = W2)
    case first =>
      by_cases h7 : x.op = 7
      · rw [h7] at c0
        cases o
        · go_wp2_with fail
          all_goals go_meet
          all_goals exact ⟨by unfold nestO; simp [h7], rfl⟩
        · go_wp2_with fail
          all_goals go_meet
          all_goals exact ⟨by unfold nestO; simp [h7], rfl⟩
      · by_cases h8 : x.op = 8
        · rw [h8] at c0
          cases o
          · go_wp2_with fail
            all_goals go_meet
            all_goals exact ⟨by unfold nestO; simp [h8], rfl⟩
          · go_wp2_with fail
            all_goals go_meet
            all_goals exact ⟨by unfold nestO; simp [h8], rfl⟩
        · have h7' : (x.op == 7) = false := beq_eq_false_iff_ne.2 h7
          have h8' : (x.op == 8) = false := beq_eq_false_iff_ne.2 h8
          go_wp2_with fail
          all_goals go_meet
          all_goals exact ⟨by unfold nestO; simp [h7, h8], rfl⟩
    case rest =>
    obtain ⟨rfl, hwc⟩ := hcut
    subst hwc
    obtain ⟨nb, hnb⟩ : ∃ nb, nestO x o = nb := ⟨_, rfl⟩
    rw [hnb]
    have hn2 : ((x.op = 7 ∧ o = true) ∨ (x.op = 8 ∧ o = false)) ↔ nb = true := by
      rw [← hnb]
      unfold nestO
      cases o <;> simp
    have HNB := Lib.hid hn2
    clear hnb hn2
    cases nb with
    | true =>
      have hv2 := HV1.out
      rw [if_pos (HNB.out.2 rfl)] at hv2
      subst hv2
      go_wp2_with fail
      go_ret
      exact ⟨rfl, HB2.out⟩
    | false =>
      have hv2 := HV1.out
      rw [if_neg (fun h => by have := HNB.out.1 h; cases this)] at hv2
      have HV2 := Lib.hid hv2
      clear hv2 HV1
      go_wp2_with fail
      refine (IsaBU.a_place_v _ _ _ _ _ _ HP.out _ HE2.out).mono ?_
      rintro e w3 ⟨rfl, hb3⟩
      have HB3 := Lib.hid (HB2.out.trans (hb3.mono HB2.out.size))
      have HR3 := Lib.hid (HR.out.below HB3.out)
      have HE3 := Lib.hid (HE2.out.below hb3)
      clear hb3 c0 c1 c2 c3 c4
      go_upto_region 8 with fail
      go_cut [63] (fun bv wc => bv = .bool (plO p o) ∧ wc = w3)
      case first =>
        rcases (show p = 1 ∨ p = 2 ∨ (p ≠ 1 ∧ p ≠ 2) by omega) with h1 | h1 | ⟨h1, h2⟩
        · subst h1
          cases o
          · go_wp2_with fail
            all_goals go_meet
            all_goals exact ⟨rfl, rfl⟩
          · go_wp2_with fail
            all_goals go_meet
            all_goals exact ⟨rfl, rfl⟩
        · subst h1
          cases o
          · go_wp2_with fail
            all_goals go_meet
            all_goals exact ⟨rfl, rfl⟩
          · go_wp2_with fail
            all_goals go_meet
            all_goals exact ⟨rfl, rfl⟩
        · have h1' : (p == 1) = false := beq_eq_false_iff_ne.2 h1
          have h2' : (p == 2) = false := beq_eq_false_iff_ne.2 h2
          go_wp2_with fail
          all_goals go_meet
          all_goals exact ⟨by unfold plO; simp [h1, h2], rfl⟩
      case rest =>
      obtain ⟨rfl, hwc⟩ := hcut
      subst hwc
      obtain ⟨pb, hpb⟩ : ∃ pb, plO p o = pb := ⟨_, rfl⟩
      rw [hpb]
      have hp2 : ((p = 1 ∧ o = false) ∨ (p = 2 ∧ o = true)) ↔ pb = true := by
        rw [← hpb]
        unfold plO
        cases o <;> simp
      have HPB := Lib.hid hp2
      clear hpb hp2
      cases pb with
      | true =>
        have hv3 := HV2.out
        rw [if_pos (HPB.out.2 rfl)] at hv3
        subst hv3
        go_wp2_with fail
        go_ret
        exact ⟨rfl, HB3.out⟩
      | false =>
        have hv3 := HV2.out
        rw [if_neg (fun h => by have := HPB.out.1 h; cases this)] at hv3
        have HV3 := Lib.hid hv3
        clear hv3 HV2
        obtain ⟨g', off', x', hA', hg', hx', c0, c1, c2, c3, c4⟩ := HR3.out.at hk
        obtain rfl : x = x' := by rw [HX.out] at hx'; injection hx'
        simp only [Option.some.injEq, Addr.mk.injEq, and_true] at hA'
        obtain ⟨rfl, rfl⟩ := hA'
        clear hx'
        go_wp2_with fail
        refine (a_skips_v _ _ _ _ _ sv y HY.out HSV.out _ HE3.out).mono ?_
        rintro e w4 ⟨rfl, hb4⟩
        have HB4 := Lib.hid (HB3.out.trans (hb4.mono HB3.out.size))
        have HR4 := Lib.hid (HR.out.below HB4.out)
        clear hb4 c0 c1 c2 c3 c4
        cases y with
        | false =>
          have hv4 := HV3.out
          rw [if_neg (by simp)] at hv4
          subst hv4
          go_wp2_with fail
          go_ret
          exact ⟨rfl, HB4.out⟩
        | true =>
          have hv4 := HV3.out
          cases pm with
          | true =>
            rw [if_neg (by simp)] at hv4
            subst hv4
            go_wp2_with (go_at_call 52; (with_reducible refine (a_permitted HPM.out _ HM.out hmx HR4.out).mono ?_); rintro e w5 ⟨rfl, hb5⟩; have HB5 := Lib.hid (HB4.out.trans (hb5.mono HB4.out.size)))
            go_ret
            exact ⟨rfl, HB5.out⟩
          | false =>
            rw [if_pos (by simp)] at hv4
            subst hv4
            go_wp2_with (go_at_call 52; (with_reducible refine (a_permitted HPM.out _ HM.out hmx HR4.out).mono ?_); rintro e w5 ⟨rfl, hb5⟩; have HB5 := Lib.hid (HB4.out.trans (hb5.mono HB4.out.size)))
            go_ret
            exact ⟨rfl, HB5.out⟩
  · have hv1 := HV.out
    rw [if_pos hz] at hv1
    have hz' : (v0 != 0) = true := by simpa using hz
    subst hv1
    go_wp2_with fail
    go_ret
    exact ⟨rfl, HB1.out⟩
end Go.Proofs.YthnhmclnfgkppaaDoor.PgD
