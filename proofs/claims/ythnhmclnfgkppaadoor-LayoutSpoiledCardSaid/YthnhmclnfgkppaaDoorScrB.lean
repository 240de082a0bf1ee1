/-
  Contract of package layout: CheckScript.
-/
import Derived.Test.YthnhmclnfgkppaaDoorScrA
namespace Go.Proofs.YthnhmclnfgkppaaDoor.ScrB
open Go.ChangeShapes Go.WideShapes Go.ChangeAt Go.RowKit
open PlainT BlkW LawFrame IsaE IsaF PrgS LayS LayA LayB ScrP ScrA
set_option linter.unusedVariables false
set_option maxHeartbeats 1000000
set_option maxRecDepth 100000

set_option maxHeartbeats 8000000 in
theorem a_script (s : Scr) (Ai : Option Addr) (ci : Nat) (Ap : Option Addr) (np cp : Nat) (Ak : Option Addr) (nk ck : Nat) (w : World) (hE : Env w) (h : Holds w s Ai ci Ap np cp Ak nk ck) (t u v : Int) (hv : csV s = (t, u, v)) :
    Calls Tryd.prog 18 #[scrV s.q (.slice Ai s.ni ci) (.slice Ap np cp) (.slice Ak nk ck)] w fun e w' => e = .returned (.tuple #[.int .i64 t, .int .i64 u, .int .i64 v]) ∧ Below w.heap.size w w' := by
  have HM := Lib.hid (Mem.new w TS (scells s.q (.slice Ai s.ni ci) (.slice Ap np cp) (.slice Ak nk ck)))
  have HB := Lib.hid (below_new w (.cells (scells s.q (.slice Ai s.ni ci) (.slice Ap np cp) (.slice Ak nk ck)) TS))
  have HH := Lib.hid h
  have HE := Lib.hid (hE.alloc (.cells (scells s.q (.slice Ai s.ni ci) (.slice Ap np cp) (.slice Ak nk ck)) TS))
  obtain ⟨⟨i1, i2⟩, ⟨p1, p2⟩, ⟨k1, k2⟩, hrp, hrk⟩ := h
  have I1 := i2
  have P2 := p2
  have K2 := k2
  unfold maxLen at I1 P2 K2
  have hpl := hrp.1
  have hkl := hrk.1
  unfold csV at hv
  rw [hpl] at hv
  obtain ⟨c, hc⟩ : ∃ c, chkV s.q = c := ⟨_, rfl⟩
  rw [hc] at hv
  have hck := a_check
  clear hck
  have HC := Lib.hid hc
  have HP2 := Lib.hid p2
  have HK2 := Lib.hid k2
  have HPL := Lib.hid hpl
  have HKL := Lib.hid hkl
  clear hrp hrk hpl hkl i2 p2 k2
  by_cases hc0 : c = 0
  · rw [if_neg (by simp [hc0])] at hv
    subst hc0
    have hck : ∀ w, Calls Tryd.prog 34 #[cfgV s.q] w fun e w' => e = .returned (.int .i64 0) ∧ Below w.heap.size w w' := fun w => by
      have h := a_check s.q w
      rw [HC.out] at h
      exact h
    clear hc
    by_cases hn : np < 1 ∨ 16 < np
    · rw [if_pos hn] at hv
      simp only [Prod.mk.injEq] at hv
      obtain ⟨rfl, rfl, rfl⟩ := hv
      have hin : inB np 1 16 = false := by rw [inB_not]; omega
      clear hn
      go_enter Tryd.func18, Tryd.ntmps18
      go_wp2_with (first | (go_at_call 34; (with_reducible refine (hck _).mono ?_); rintro e w1 ⟨rfl, hb1⟩; have HB1 := Lib.hid (HB.out.trans (hb1.mono (by rw [size_new]; omega))); have HM1 := Lib.hid (HM.out.below hb1 HM.out.lt); have HE1 := Lib.hid (HE.out.below hb1); clear hb1; obtain ⟨s0, s1, s2, s3, s4, s5, s6, s7, s8, s9, s10, s11, s12, s13, s14, s15⟩ := sbox_cells HM1.out) | (go_at_call 41; (with_reducible refine (a_within _ _ _ _).mono ?_); rintro e wx ⟨rfl, rfl⟩))
      refine bodyPost_ret (results_tmp3 rfl _ _ _) rfl ?_
      exact ⟨rfl, HB1.out⟩
    · rw [if_neg hn] at hv
      have n1 : 1 ≤ np := by omega
      have n16 : np ≤ 16 := by omega
      have hin : inB np 1 16 = true := inB_iff.2 ⟨by omega, by omega⟩
      have HIN := Lib.hid hin
      by_cases hi : (s.ni : Int) = s.q.w
      · rw [if_neg (by simp [hi])] at hv
        have hi2 : ((s.ni : Int) != s.q.w) = false := by simp [hi]
        have HV := Lib.hid (show endV np s.picks (prGo (s.progs.drop 0) 0) = (t, u, v) from hv)
        clear hv hi hn
        go_enter Tryd.func18, Tryd.ntmps18
        go_wp2_with (first | (go_at_call 34; (with_reducible refine (hck _).mono ?_); rintro e w1 ⟨rfl, hb1⟩; have HB1 := Lib.hid (HB.out.trans (hb1.mono (by rw [size_new]; omega))); have HM1 := Lib.hid (HM.out.below hb1 HM.out.lt); have HE1 := Lib.hid (HE.out.below hb1); clear hb1; obtain ⟨s0, s1, s2, s3, s4, s5, s6, s7, s8, s9, s10, s11, s12, s13, s14, s15⟩ := sbox_cells HM1.out) | (go_at_call 41; (with_reducible refine (a_within _ _ _ _).mono ?_); rintro e wx ⟨rfl, rfl⟩))
        have HM2 := HM1.out
        have hE1 := HE1.out
        go_loopw [31] (fun kv wr => ∃ j : Nat, j ≤ np ∧ kv = .int .i64 j ∧ Hid (endV np s.picks (prGo (s.progs.drop j) j) = (t, u, v)) ∧ Mem wr w.heap.size TS (scells s.q (.slice Ai s.ni ci) (.slice Ap np cp) (.slice Ak nk ck)) ∧ Below w.heap.size w wr ∧ Env wr) (fun kv _ => np - (intOf kv).toNat)
        case atStart => exact ⟨0, by omega, rfl, HV, HM2, HB1.out, hE1⟩
        case round =>
          obtain ⟨j, hj, rfl, hgo, hm, hb, hEr⟩ := hrel
          clear HV HM2 hE1 s0 s1 s2 s3 s4 s5 s6 s7 s8 s9 s10 s11 s12 s13 s14 s15
          have HMr := Lib.hid hm
          have HBr := Lib.hid hb
          obtain ⟨s0, s1, s2, s3, s4, s5, s6, s7, s8, s9, s10, s11, s12, s13, s14, s15⟩ := sbox_cells hm
          have HOr := Lib.hid (HH.out.old (.of_below hb))
          clear hm hb
          by_cases hjn : j < np
          · obtain ⟨b, off, p, A2, n2, c2, rfl, hb2, hp, hcell, q1, q2, hR, _⟩ := HOr.out.rp.at hjn
            have hg2 := hgo.out
            rw [drop_at hp] at hg2
            unfold prGo at hg2
            obtain ⟨⟨x1, x2⟩, hx⟩ : ∃ x, refChk p = x := ⟨_, rfl⟩
            rw [hx] at hg2
            have hpc := PgE.a_check A2 n2 c2 p wr hEr q1 q2 hR
            rw [hx] at hpc
            simp only at hg2 hpc
            have HPC := Lib.hid hpc
            clear hpc hx hp hgo hR q2
            by_cases hx0 : x2 = 0
            · subst hx0
              rw [if_neg (by simp)] at hg2
              have HG := Lib.hid hg2
              clear hg2
              go_wp2_with (go_at_call 9; refine HPC.out.mono ?_; rintro e w2 ⟨rfl, hb2⟩; have HB2 := Lib.hid hb2)
              go_roundw
              case rel => exact ⟨j + 1, by omega, by go_num, HG, HMr.out.below HB2.out HMr.out.lt, HBr.out.trans (HB2.out.mono HBr.out.size), hEr.below HB2.out⟩
              case measure => simp [intOf]; omega
            · rw [if_pos hx0] at hg2
              simp only [endV, Prod.mk.injEq] at hg2
              obtain ⟨rfl, rfl, rfl⟩ := hg2
              have hx1 : (x2 != 0) = true := by simpa using hx0
              clear hx0
              go_wp2_with (go_at_call 9; refine HPC.out.mono ?_; rintro e w2 ⟨rfl, hb2⟩; have HB2 := Lib.hid hb2)
              refine bodyPost_ret (results_tmp3 rfl _ _ _) rfl ?_
              exact ⟨rfl, HBr.out.trans (HB2.out.mono HBr.out.size)⟩
          · obtain rfl : j = np := by omega
            have hg2 := hgo.out
            rw [show s.progs.drop j = [] from List.drop_eq_nil_of_le (by rw [HPL.out]; exact Nat.le_refl _)] at hg2
            simp only [prGo, endV, Prod.mk.injEq] at hg2
            obtain ⟨rfl, hu, hv2⟩ := hg2
            have HPK := Lib.hid (show pkV j s.picks = (u, v) by rw [← hu, ← hv2])
            clear hu hv2 hgo
            go_wp2_with (go_at_call 42; (with_reducible refine (a_picks Ak nk ck s.picks j (by omega) (by omega) _ k1 HK2.out HOr.out.rk u v HPK.out).mono ?_); rintro e w3 ⟨rfl, rfl⟩)
            refine bodyPost_ret (results_tmp3 rfl _ _ _) rfl ?_
            exact ⟨rfl, HBr.out⟩
      · rw [if_pos hi] at hv
        simp only [Prod.mk.injEq] at hv
        obtain ⟨rfl, rfl, rfl⟩ := hv
        have hi2 : ((s.ni : Int) != s.q.w) = true := by simp [hi]
        clear hi hn
        go_enter Tryd.func18, Tryd.ntmps18
        go_wp2_with (first | (go_at_call 34; (with_reducible refine (hck _).mono ?_); rintro e w1 ⟨rfl, hb1⟩; have HB1 := Lib.hid (HB.out.trans (hb1.mono (by rw [size_new]; omega))); have HM1 := Lib.hid (HM.out.below hb1 HM.out.lt); have HE1 := Lib.hid (HE.out.below hb1); clear hb1; obtain ⟨s0, s1, s2, s3, s4, s5, s6, s7, s8, s9, s10, s11, s12, s13, s14, s15⟩ := sbox_cells HM1.out) | (go_at_call 41; (with_reducible refine (a_within _ _ _ _).mono ?_); rintro e wx ⟨rfl, rfl⟩))
        refine bodyPost_ret (results_tmp3 rfl _ _ _) rfl ?_
        exact ⟨rfl, HB1.out⟩
  · rw [if_pos hc0] at hv
    simp only [Prod.mk.injEq] at hv
    obtain ⟨rfl, rfl, rfl⟩ := hv
    have hck : ∀ w, Calls Tryd.prog 34 #[cfgV s.q] w fun e w' => e = .returned (.int .i64 c) ∧ Below w.heap.size w w' := fun w => by
      have h := a_check s.q w
      rw [HC.out] at h
      exact h
    have hc1 : (c != 0) = true := by simpa using hc0
    clear hc hc0
    go_enter Tryd.func18, Tryd.ntmps18
    go_wp2_with (first | (go_at_call 34; (with_reducible refine (hck _).mono ?_); rintro e w1 ⟨rfl, hb1⟩; have HB1 := Lib.hid (HB.out.trans (hb1.mono (by rw [size_new]; omega))); have HM1 := Lib.hid (HM.out.below hb1 HM.out.lt); have HE1 := Lib.hid (HE.out.below hb1); clear hb1; obtain ⟨s0, s1, s2, s3, s4, s5, s6, s7, s8, s9, s10, s11, s12, s13, s14, s15⟩ := sbox_cells HM1.out) | (go_at_call 41; (with_reducible refine (a_within _ _ _ _).mono ?_); rintro e wx ⟨rfl, rfl⟩))
    refine bodyPost_ret (results_tmp3 rfl _ _ _) rfl ?_
    exact ⟨rfl, HB1.out⟩
end Go.Proofs.YthnhmclnfgkppaaDoor.ScrB
