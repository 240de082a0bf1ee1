/-
  Contract of the reference of layer 6: Check.
-/
import Derived.Test.YtcplhochgngedaaGreatDoorPrgR
import Derived.Deep.DeepCutAuto
namespace Go.Proofs.YtcplhochgngedaaGreatDoor.PrgC
open Go.ChangeShapes Go.WideShapes Go.ChangeAt Go.RowKit
open PlainT IsaE IsaS BlkW IsaA IsaB IsaF RefA RefB PrgS PrgR
set_option linter.unusedVariables false
set_option maxHeartbeats 1000000

theorem fold_nest (x : I5) (o : Int) : ((x.op == 7 && decide (0 ≤ o)) || (x.op == 8 && decide (o < 0))) = nestB x o := rfl
theorem next_lo {k : Nat} {x : I5} {o : Int} (h : -1 ≤ o) : -1 ≤ nextO k x o := by
  unfold nextO
  split
  · omega
  · split <;> omega
theorem next_hi {k n : Nat} {x : I5} {o : Int} (h : o ≤ n) (hk : k < n) : nextO k x o ≤ n := by
  unfold nextO
  split
  · omega
  · split <;> omega
theorem skV_of (k : Nat) (hk : k < 18) (h0 : loI k = 0) (h1 : hiI k = 64) {a b c i : Int} (h : chk (k : Int) a b c i = 0) : 0 ≤ i ∧ i ≤ 64 := by
  rw [chk_split k hk] at h
  split at h
  · rename_i h2
    simp only [Bool.and_eq_true, decide_eq_true_eq] at h2
    rw [h0, h1] at h2
    exact h2.1
  · cases h
theorem skV_ok (x : I5) : 0 ≤ skV x ∧ skV x ≤ 64 := by
  unfold skV skipsV
  split
  · rename_i h
    unfold skipsB at h
    simp only [Bool.and_eq_true, Bool.or_eq_true, decide_eq_true_eq] at h
    obtain ⟨h0, h1 | h1 | h1⟩ := h
    · rw [h1] at h0; exact skV_of 4 (by decide) (by decide) (by decide) h0
    · rw [h1] at h0; exact skV_of 5 (by decide) (by decide) (by decide) h0
    · rw [h1] at h0; exact skV_of 6 (by decide) (by decide) (by decide) h0
  · omega
set_option maxHeartbeats 4000000 in
set_option maxRecDepth 100000 in
theorem r_chk (A : Option Addr) (n c : Nat) (ps : List I5) (w : World) (hc : n ≤ c) (hm : n ≤ 4000000) (hO : ∀ x ∈ ps, OkI x) (h : RowI w A n ps) (u v : Int) (hv : refChk ps = (u, v)) :
    Calls Tryz.prog 44 #[.slice A n c] w fun e w' => e = .returned (.tuple #[.int .i64 u, .int .i64 v]) ∧ Below w.heap.size w w' := by
  have hl := h.1
  unfold refChk at hv
  rw [hl] at hv
  by_cases h64 : 64 < n
  · rw [if_pos h64] at hv
    injection hv with e1 e2
    subst e1 e2
    clear h hl
    go_enter Tryz.func44, Tryz.ntmps44
    go_wp2
    refine bodyPost_ret (results_tmp2 rfl _ _ _) rfl ?_
    exact ⟨rfl, Below.refl _ _⟩
  · rw [if_neg h64] at hv
    have HV := Lib.hid (show chkGo ps (ps.drop 0) 0 (-1) = (u, v) from hv)
    have HR := Lib.hid h
    have HO := Lib.hid hO
    clear h hv hl hO
    go_enter Tryz.func44, Tryz.ntmps44
    go_wp2
    go_loopw [4, 5] (fun ov kv wr => ∃ (k : Nat) (o : Int), k ≤ n ∧ -1 ≤ o ∧ o ≤ n ∧ ov = .int .i64 o ∧ kv = .int .i64 k ∧ Hid (chkGo ps (ps.drop k) k o = (u, v)) ∧ Below w.heap.size w wr) (fun _ kv _ => n - (intOf kv).toNat)
    case atStart => exact ⟨0, -1, by omega, by omega, by omega, rfl, rfl, HV, Below.refl _ _⟩
    case round =>
      obtain ⟨k, o, hk, ho1, ho2, rfl, rfl, hgo, hbw⟩ := hrel
      have HB := Lib.hid hbw
      clear HV hbw
      by_cases hkn : k < n
      · obtain ⟨g, off, x, rfl, hg, hx, c0, c1, c2, c3, c4⟩ := (HR.out.below (HB.out)).at hkn
        have hxo := HO.out x (List.mem_of_getElem? hx)
        have hg2 := hgo.out
        rw [drop_cons_of hx] at hg2
        unfold chkGo at hg2
        have HG := Lib.hid hg2
        have HXO := Lib.hid hxo
        obtain ⟨w1, hw1⟩ : ∃ w1, w1 = wr.alloc (.cells #[.int .i64 x.op, .int .i64 x.a, .int .i64 x.b, .int .i64 x.c, .int .i64 x.i] 40) := ⟨_, rfl⟩
        have hm1 : Mem w1 wr.heap.size 40 (boxed x.op x.a x.b x.c x.i) := hw1 ▸ Mem.new wr _ _
        have HM1 := Lib.hid hm1
        have hb1 : Below w.heap.size w w1 := hw1 ▸ HB.out.alloc HB.out.size _
        have HB1 := Lib.hid hb1
        obtain ⟨e0, he0⟩ : ∃ e0, chk x.op x.a x.b x.c x.i = e0 := ⟨_, rfl⟩
        obtain ⟨d0, d1, d2, d3, d4⟩ := boxed_cells hm1
        have hlt1 := hm1.lt
        have HW := Lib.hid hw1
        clear hg2 hgo hxo hm1 hb1 hw1
        go_upto_region 8 with fail
        rw [← HW.out]
        clear HW
        obtain ⟨g6, hg6⟩ : ∃ g6, g6 = wr.heap.size := ⟨_, rfl⟩
        rw [← hg6] at HM1 d0 d1 d2 d3 d4 hlt1 ⊢
        clear hg6 c0 c1 c2 c3 c4
        go_wp2_with fail
        refine (r_check_v HXO.out.2.2.2.2 he0 _).mono ?_
        rintro e w2 ⟨rfl, hb2⟩
        have HM2 := Lib.hid (HM1.out.below hb2 HM1.out.lt)
        have HB2 := Lib.hid (HB1.out.trans (hb2.mono HB1.out.size))
        have HE0 := Lib.hid he0
        obtain ⟨d0', d1', d2', d3', d4'⟩ := boxed_cells HM2.out
        have hlt2 := HM2.out.lt
        clear d0 d1 d2 d3 d4 hlt1 HM1 HB1 hb2 he0
        by_cases hz : e0 = 0
        · subst hz
          go_upto_region 11 with fail
          go_cut [45] (fun b wc => b = .bool (nestB x o) ∧ wc = w2)
          case first =>
            by_cases h7 : x.op = 7
            · rw [h7] at d0'
              have h78 : ¬ x.op = 8 := by omega
              by_cases ho0 : 0 ≤ o
              · go_wp2_with fail
                all_goals go_meet
                all_goals exact ⟨by unfold nestB; simp [h7, ho0], rfl⟩
              · go_wp2_with fail
                all_goals go_meet
                all_goals exact ⟨by unfold nestB; simp [h7, ho0], rfl⟩
            · by_cases h8 : x.op = 8
              · rw [h8] at d0'
                by_cases ho0 : 0 ≤ o
                · have ho0' : ¬ o < 0 := by omega
                  go_wp2_with fail
                  all_goals go_meet
                  all_goals exact ⟨by unfold nestB; simp [h8, ho0], rfl⟩
                · have ho0' : o < 0 := by omega
                  go_wp2_with fail
                  all_goals go_meet
                  all_goals exact ⟨by unfold nestB; simp [h8, ho0], rfl⟩
              · have h7' : (x.op == 7) = false := beq_eq_false_iff_ne.2 h7
                have h8' : (x.op == 8) = false := beq_eq_false_iff_ne.2 h8
                go_wp2_with fail
                all_goals go_meet
                all_goals exact ⟨by unfold nestB; simp [h7, h8], rfl⟩
          case rest =>
          obtain ⟨rfl, hwc⟩ := hcut
          subst hwc
          obtain ⟨nb, hnb⟩ : ∃ nb, nestB x o = nb := ⟨_, rfl⟩
          rw [hnb]
          have HNB := Lib.hid hnb
          clear hnb
          have hE : chkI x = 0 := HE0.out
          have HE1 := Lib.hid hE
          clear hE d0' d1' d2' d3' d4' hlt2
          cases nb with
          | true =>
            have herr : errAt ps k x o = 40 := by
              unfold errAt
              rw [if_neg (by rw [HE1.out]; decide), if_pos HNB.out]
            have hg3 := HG.out
            rw [herr, if_pos (by decide)] at hg3
            injection hg3 with e1 e2
            subst e1 e2
            clear herr
            go_wp2_with fail
            refine bodyPost_ret (results_tmp2 rfl _ _ _) rfl ?_
            exact ⟨rfl, HB2.out⟩
          | false =>
            obtain ⟨d0, d1, d2, d3, d4⟩ := boxed_cells HM2.out
            have hlt := HM2.out.lt
            obtain ⟨p, hp⟩ : ∃ p, placeV x.op x.a x.b x.c x.i = p := ⟨_, rfl⟩
            go_wp2_with fail
            refine (r_place_v _ _ _ _ _ p HXO.out.2.2.2.2 hp _).mono ?_
            rintro e w3 ⟨rfl, hb3⟩
            have HM3 := Lib.hid (HM2.out.below hb3 HM2.out.lt)
            have HB3 := Lib.hid (HB2.out.trans (hb3.mono HB2.out.size))
            have HP := Lib.hid (show plI x = p from hp)
            clear d0 d1 d2 d3 d4 hlt HM2 HB2 hb3 hp
            go_upto_region 14 with fail
            go_cut [62] (fun b wc => b = .bool (placeB p o) ∧ wc = w3)
            case first =>
              rcases (show p = 1 ∨ p = 2 ∨ (p ≠ 1 ∧ p ≠ 2) by omega) with h1 | h1 | ⟨h1, h2⟩
              · by_cases ho0 : o < 0
                · have ho1' : ¬ 0 ≤ o := by omega
                  subst h1
                  go_wp2_with fail
                  all_goals go_meet
                  all_goals exact ⟨by unfold placeB; simp [ho0], rfl⟩
                · have ho1' : 0 ≤ o := by omega
                  subst h1
                  go_wp2_with fail
                  all_goals go_meet
                  all_goals exact ⟨by unfold placeB; simp [ho0], rfl⟩
              · by_cases ho0 : o < 0
                · have ho1' : ¬ 0 ≤ o := by omega
                  subst h1
                  go_wp2_with fail
                  all_goals go_meet
                  all_goals exact ⟨by unfold placeB; simp [ho0], rfl⟩
                · have ho1' : 0 ≤ o := by omega
                  subst h1
                  go_wp2_with fail
                  all_goals go_meet
                  all_goals exact ⟨by unfold placeB; simp [ho0], rfl⟩
              · have h1' : (p == 1) = false := beq_eq_false_iff_ne.2 h1
                have h2' : (p == 2) = false := beq_eq_false_iff_ne.2 h2
                go_wp2_with fail
                all_goals go_meet
                all_goals exact ⟨by unfold placeB; simp [h1, h2], rfl⟩
            case rest =>
            obtain ⟨rfl, hwc⟩ := hcut
            subst hwc
            obtain ⟨pb, hpb⟩ : ∃ pb, placeB p o = pb := ⟨_, rfl⟩
            rw [hpb]
            have HPB := Lib.hid (show placeB (plI x) o = pb by rw [HP.out]; exact hpb)
            clear hpb
            cases pb with
            | true =>
              have herr : errAt ps k x o = 41 := by
                unfold errAt
                rw [if_neg (by rw [HE1.out]; decide), if_neg (by rw [HNB.out]; decide), if_pos HPB.out]
              have hg3 := HG.out
              rw [herr, if_pos (by decide)] at hg3
              injection hg3 with e1 e2
              subst e1 e2
              clear herr
              go_wp2_with fail
              refine bodyPost_ret (results_tmp2 rfl _ _ _) rfl ?_
              exact ⟨rfl, HB3.out⟩
            | false =>
              obtain ⟨d0, d1, d2, d3, d4⟩ := boxed_cells HM3.out
              have hlt := HM3.out.lt
              obtain ⟨y, hy⟩ : ∃ y, skipsB x.op x.a x.b x.c x.i = y := ⟨_, rfl⟩
              obtain ⟨sv, hsv⟩ : ∃ sv, skipsV x.op x.a x.b x.c x.i = sv := ⟨_, rfl⟩
              have hs0 := (skV_ok x).1
              have hs1 := (skV_ok x).2
              rw [show skV x = sv from hsv] at hs0 hs1
              go_wp2_with fail
              refine (r_skips_v _ _ _ _ _ sv HXO.out.2.2.2.2 y hy hsv _).mono ?_
              rintro e w4 ⟨rfl, hb4⟩
              have HM4 := Lib.hid (HM3.out.below hb4 HM3.out.lt)
              have HB4 := Lib.hid (HB3.out.trans (hb4.mono HB3.out.size))
              have HY := Lib.hid (show skB x = y from hy)
              have HSV := Lib.hid (show skV x = sv from hsv)
              clear d0 d1 d2 d3 d4 hlt HM3 HB3 hb4 hy hsv
              obtain ⟨rv, hrv⟩ : ∃ rv, reachesV ps k (k + 1 + sv) = rv := ⟨_, rfl⟩
              have HRV := Lib.hid hrv
              clear hrv
              have hk64 : (k : Int) ≤ 64 := by omega
              go_upto_region 17 with fail
              go_cut [79] (fun b wc => b = .bool (y && !rv) ∧ wc = w4)
              case first =>
                cases y with
                | false =>
                  go_wp2_with fail
                  all_goals go_meet
                  all_goals exact ⟨rfl, rfl⟩
                | true =>
                  have hi1 : InInt (k : Int) := ⟨by omega, by omega⟩
                  have hi2 : InInt ((k : Int) + 1 + sv) := ⟨by omega, by omega⟩
                  go_wp2_with fail
                  refine (r_reaches _ n c ps k (k + 1 + sv) _ hc hm hi1 hi2 (HR.out.below HB4.out) rv HRV.out).mono ?_
                  rintro e w5 ⟨rfl, rfl⟩
                  go_wp2_with fail
                  all_goals go_meet
                  all_goals exact ⟨by simp, rfl⟩
              case rest =>
              obtain ⟨rfl, hwc⟩ := hcut
              subst hwc
              obtain ⟨qb, hqb⟩ : ∃ qb, (y && !rv) = qb := ⟨_, rfl⟩
              rw [hqb]
              have HQB := Lib.hid hqb
              clear hqb
              cases qb with
              | true =>
                have herr : errAt ps k x o = 42 := by
                  unfold errAt
                  have h := HQB.out
                  simp only [Bool.and_eq_true, Bool.not_eq_true'] at h
                  rw [if_neg (by rw [HE1.out]; decide), if_neg (by rw [HNB.out]; decide), if_neg (by rw [HPB.out]; decide), if_pos ⟨by rw [HY.out]; exact h.1, by rw [HSV.out, HRV.out]; exact h.2⟩]
                have hg3 := HG.out
                rw [herr, if_pos (by decide)] at hg3
                injection hg3 with e1 e2
                subst e1 e2
                clear herr
                go_wp2_with fail
                refine bodyPost_ret (results_tmp2 rfl _ _ _) rfl ?_
                exact ⟨rfl, HB4.out⟩
              | false =>
                have herr : errAt ps k x o = 0 := by
                  unfold errAt
                  have h := HQB.out
                  rw [if_neg (by rw [HE1.out]; decide), if_neg (by rw [HNB.out]; decide), if_neg (by rw [HPB.out]; decide), if_neg]
                  rintro ⟨h1, h2⟩
                  rw [HY.out] at h1
                  rw [HSV.out, HRV.out] at h2
                  rw [h1, h2] at h
                  cases h
                have hg3 := HG.out
                rw [herr, if_neg (by decide)] at hg3
                have HG3 := Lib.hid hg3
                obtain ⟨d0, d1, d2, d3, d4⟩ := boxed_cells HM4.out
                have hlt := HM4.out.lt
                have HN1 := Lib.hid (next_lo (k := k) (x := x) ho1)
                have HN2 := Lib.hid (next_hi (x := x) ho2 hkn)
                clear herr hg3 HG
                by_cases h7 : x.op = 7
                · have hno : nextO k x o = k := by unfold nextO; rw [if_pos h7]
                  rw [hno] at HG3 HN1 HN2
                  rw [h7] at d0
                  clear hno
                  go_wp2_with fail
                  go_roundw
                  case rel => exact ⟨k + 1, k, by omega, by omega, by omega, rfl, by go_num, HG3, HB4.out⟩
                  case measure => simp [intOf]; omega
                · by_cases h8 : x.op = 8
                  · have hno : nextO k x o = -1 := by unfold nextO; rw [if_neg h7, if_pos h8]
                    rw [hno] at HG3 HN1 HN2
                    rw [h8] at d0
                    clear hno
                    go_wp2_with fail
                    go_roundw
                    case rel => exact ⟨k + 1, -1, by omega, by omega, by omega, rfl, by go_num, HG3, HB4.out⟩
                    case measure => simp [intOf]; omega
                  · have hno : nextO k x o = o := by unfold nextO; rw [if_neg h7, if_neg h8]
                    rw [hno] at HG3 HN1 HN2
                    have h7' : (x.op == 7) = false := beq_eq_false_iff_ne.2 h7
                    have h8' : (x.op == 8) = false := beq_eq_false_iff_ne.2 h8
                    clear hno
                    go_wp2_with fail
                    go_roundw
                    case rel => exact ⟨k + 1, o, by omega, by omega, by omega, rfl, by go_num, HG3, HB4.out⟩
                    case measure => simp [intOf]; omega
        · have hg3 := HG.out
          have herr : errAt ps k x o = e0 := by
            unfold errAt chkI
            rw [HE0.out, if_pos hz]
          rw [herr, if_pos hz] at hg3
          injection hg3 with e1 e2
          subst e1 e2
          have hz' : (e0 == 0) = false := beq_eq_false_iff_ne.2 hz
          clear herr
          go_wp2_with fail
          refine bodyPost_ret (results_tmp2 rfl _ _ _) rfl ?_
          exact ⟨rfl, HB2.out⟩
      · obtain rfl : k = n := by omega
        have hg2 := hgo.out
        rw [show ps.drop k = [] from List.drop_eq_nil_of_le (by rw [HR.out.1]; exact Nat.le_refl _)] at hg2
        unfold chkGo at hg2
        clear hgo
        by_cases h1 : 0 ≤ o
        · rw [if_pos h1] at hg2
          injection hg2 with e1 e2
          subst e1 e2
          go_wp2
          refine bodyPost_ret (results_tmp2 rfl _ _ _) rfl ?_
          exact ⟨rfl, HB.out⟩
        · rw [if_neg h1] at hg2
          injection hg2 with e1 e2
          subst e1 e2
          go_wp2
          refine bodyPost_ret (results_tmp2 rfl _ _ _) rfl ?_
          exact ⟨rfl, HB.out⟩
end Go.Proofs.YtcplhochgngedaaGreatDoor.PrgC
