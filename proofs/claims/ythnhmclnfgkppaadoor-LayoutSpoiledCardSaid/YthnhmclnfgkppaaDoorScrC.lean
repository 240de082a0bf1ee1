/-
  Contract of the reference of layer 7: CheckScript.
-/
import Derived.Test.YthnhmclnfgkppaaDoorScrA
import Derived.Test.YthnhmclnfgkppaaDoorLayC
namespace Go.Proofs.YthnhmclnfgkppaaDoor.ScrC
open Go.ChangeShapes Go.WideShapes Go.ChangeAt Go.RowKit
open PlainT BlkW LawFrame IsaE IsaF PrgS PrgC LayS LayA LayB ScrP ScrA
set_option linter.unusedVariables false
set_option maxHeartbeats 1000000
set_option maxRecDepth 100000

theorem r_chk_any (A : Option Addr) (n c : Nat) (ps : List I5) (w : World) (hc : n ≤ c) (hm : c ≤ maxLen) (hO : ∀ x ∈ ps, OkI x) (h : RowI w A n ps) (u v : Int) (hv : refChk ps = (u, v)) :
    Calls Tryd.prog 23 #[.slice A n c] w fun e w' => e = .returned (.tuple #[.int .i64 u, .int .i64 v]) ∧ Below w.heap.size w w' := by
  by_cases h64 : 64 < n
  · unfold maxLen at hm
    have hl := h.1
    unfold refChk at hv
    rw [hl, if_pos h64] at hv
    injection hv with e1 e2
    subst e1 e2
    clear h hl hO
    go_enter Tryd.func23, Tryd.ntmps23
    go_wp2
    refine bodyPost_ret (results_tmp2 rfl _ _ _) rfl ?_
    exact ⟨rfl, Below.refl _ _⟩
  · exact r_chk A n c ps w hc (by omega) hO h u v hv
set_option maxHeartbeats 8000000 in
theorem r_script (s : Scr) (Ai : Option Addr) (ci : Nat) (Ap : Option Addr) (np cp : Nat) (Ak : Option Addr) (nk ck : Nat) (w : World) (h : Holds w s Ai ci Ap np cp Ak nk ck) (t u v : Int) (hv : csV s = (t, u, v)) :
    Calls Tryd.prog 20 #[scrV s.q (.slice Ai s.ni ci) (.slice Ap np cp) (.slice Ak nk ck)] w fun e w' => e = .returned (.tuple #[.int .i64 t, .int .i64 u, .int .i64 v]) ∧ Below w.heap.size w w' := by
  have HM := Lib.hid (Mem.new w TS (scells s.q (.slice Ai s.ni ci) (.slice Ap np cp) (.slice Ak nk ck)))
  have HB := Lib.hid (below_new w (.cells (scells s.q (.slice Ai s.ni ci) (.slice Ap np cp) (.slice Ak nk ck)) TS))
  have HH := Lib.hid h
  obtain ⟨⟨i1, i2⟩, ⟨p1, p2⟩, ⟨k1, k2⟩, hrp, hrk⟩ := h
  have I1 := i2
  have P2 := p2
  have K2 := k2
  unfold maxLen at I1 P2 K2
  have hpl := hrp.1
  have hkl := hrk.1
  unfold csV at hv
  rw [hpl] at hv
  obtain ⟨c, hc⟩ : ∃ c, chkV s.q = c := ⟨_, rfl⟩
  rw [hc] at hv
  have hck := LayC.r_check
  clear hck
  have HC := Lib.hid hc
  have HP2 := Lib.hid p2
  have HK2 := Lib.hid k2
  have HPL := Lib.hid hpl
  have HKL := Lib.hid hkl
  clear hrp hrk hpl hkl i2 p2 k2
  by_cases hc0 : c = 0
  · rw [if_neg (by simp [hc0])] at hv
    subst hc0
    have hck : ∀ w, Calls Tryd.prog 43 #[cfgV s.q] w fun e w' => e = .returned (.int .i64 0) ∧ Below w.heap.size w w' := fun w => by
      have h := LayC.r_check s.q w
      rw [HC.out] at h
      exact h
    clear hc
    by_cases hn : np < 1 ∨ 16 < np
    · rw [if_pos hn] at hv
      simp only [Prod.mk.injEq] at hv
      obtain ⟨rfl, rfl, rfl⟩ := hv
      rcases hn with hn | hn
      · have n1 : np = 0 := by omega
        subst n1
        clear hn
        go_enter Tryd.func20, Tryd.ntmps20
        go_wp2_with (first | (go_at_call 43; (with_reducible refine (hck _).mono ?_); rintro e w1 ⟨rfl, hb1⟩; have HB1 := Lib.hid (HB.out.trans (hb1.mono (by rw [size_new]; omega))); have HM1 := Lib.hid (HM.out.below hb1 HM.out.lt); clear hb1; obtain ⟨s0, s1, s2, s3, s4, s5, s6, s7, s8, s9, s10, s11, s12, s13, s14, s15⟩ := sbox_cells HM1.out))
        refine bodyPost_ret (results_tmp3 rfl _ _ _) rfl ?_
        exact ⟨rfl, HB1.out⟩
      · go_enter Tryd.func20, Tryd.ntmps20
        go_wp2_with (first | (go_at_call 43; (with_reducible refine (hck _).mono ?_); rintro e w1 ⟨rfl, hb1⟩; have HB1 := Lib.hid (HB.out.trans (hb1.mono (by rw [size_new]; omega))); have HM1 := Lib.hid (HM.out.below hb1 HM.out.lt); clear hb1; obtain ⟨s0, s1, s2, s3, s4, s5, s6, s7, s8, s9, s10, s11, s12, s13, s14, s15⟩ := sbox_cells HM1.out))
        refine bodyPost_ret (results_tmp3 rfl _ _ _) rfl ?_
        exact ⟨rfl, HB1.out⟩
    · rw [if_neg hn] at hv
      have n1 : 1 ≤ np := by omega
      have n16 : np ≤ 16 := by omega
      by_cases hi : (s.ni : Int) = s.q.w
      · rw [if_neg (by simp [hi])] at hv
        have hi2 : ((s.ni : Int) != s.q.w) = false := by simp [hi]
        have HV := Lib.hid (show endV np s.picks (prGo (s.progs.drop 0) 0) = (t, u, v) from hv)
        clear hv hi hn
        go_enter Tryd.func20, Tryd.ntmps20
        go_wp2_with (first | (go_at_call 43; (with_reducible refine (hck _).mono ?_); rintro e w1 ⟨rfl, hb1⟩; have HB1 := Lib.hid (HB.out.trans (hb1.mono (by rw [size_new]; omega))); have HM1 := Lib.hid (HM.out.below hb1 HM.out.lt); clear hb1; obtain ⟨s0, s1, s2, s3, s4, s5, s6, s7, s8, s9, s10, s11, s12, s13, s14, s15⟩ := sbox_cells HM1.out))
        have HM2 := HM1.out
        go_loopw [6] (fun kv wr => ∃ j : Nat, j ≤ np ∧ kv = .int .i64 j ∧ Hid (endV np s.picks (prGo (s.progs.drop j) j) = (t, u, v)) ∧ Mem wr w.heap.size TS (scells s.q (.slice Ai s.ni ci) (.slice Ap np cp) (.slice Ak nk ck)) ∧ Below w.heap.size w wr) (fun kv _ => np - (intOf kv).toNat)
        case atStart => exact ⟨0, by omega, rfl, HV, HM2, HB1.out⟩
        case round =>
          obtain ⟨j, hj, rfl, hgo, hm, hb⟩ := hrel
          clear HV HM2 s0 s1 s2 s3 s4 s5 s6 s7 s8 s9 s10 s11 s12 s13 s14 s15
          have HMr := Lib.hid hm
          have HBr := Lib.hid hb
          obtain ⟨s0, s1, s2, s3, s4, s5, s6, s7, s8, s9, s10, s11, s12, s13, s14, s15⟩ := sbox_cells hm
          have HOr := Lib.hid (HH.out.old (.of_below hb))
          clear hm hb
          by_cases hjn : j < np
          · obtain ⟨b, off, p, A2, n2, c2, rfl, hb2, hp, hcell, q1, q2, hR, hok⟩ := HOr.out.rp.at hjn
            have hg2 := hgo.out
            rw [drop_at hp] at hg2
            unfold prGo at hg2
            obtain ⟨⟨x1, x2⟩, hx⟩ : ∃ x, refChk p = x := ⟨_, rfl⟩
            rw [hx] at hg2
            have hpc := r_chk_any A2 n2 c2 p wr q1 q2 hok hR x1 x2 hx
            simp only at hg2
            have HPC := Lib.hid hpc
            clear hpc hx hp hgo hR q2 hok
            by_cases hx0 : x2 = 0
            · subst hx0
              rw [if_neg (by simp)] at hg2
              have HG := Lib.hid hg2
              clear hg2
              go_wp2_with (go_at_call 23; refine HPC.out.mono ?_; rintro e w2 ⟨rfl, hb2⟩; have HB2 := Lib.hid hb2)
              go_roundw
              case rel => exact ⟨j + 1, by omega, by go_num, HG, HMr.out.below HB2.out HMr.out.lt, HBr.out.trans (HB2.out.mono HBr.out.size)⟩
              case measure => simp [intOf]; omega
            · rw [if_pos hx0] at hg2
              simp only [endV, Prod.mk.injEq] at hg2
              obtain ⟨rfl, rfl, rfl⟩ := hg2
              have hx1 : (x2 != 0) = true := by simpa using hx0
              clear hx0
              go_wp2_with (go_at_call 23; refine HPC.out.mono ?_; rintro e w2 ⟨rfl, hb2⟩; have HB2 := Lib.hid hb2)
              refine bodyPost_ret (results_tmp3 rfl _ _ _) rfl ?_
              exact ⟨rfl, HBr.out.trans (HB2.out.mono HBr.out.size)⟩
          · obtain rfl : j = np := by omega
            have hg2 := hgo.out
            rw [show s.progs.drop j = [] from List.drop_eq_nil_of_le (by rw [HPL.out]; exact Nat.le_refl _)] at hg2
            simp only [prGo, endV, Prod.mk.injEq] at hg2
            obtain ⟨rfl, hu, hv2⟩ := hg2
            have hpk : pkV j s.picks = (u, v) := by rw [← hu, ← hv2]
            unfold pkV at hpk
            rw [HKL.out] at hpk
            clear hu hv2 hgo
            by_cases hgt : 65536 < nk
            · rw [if_pos hgt] at hpk
              injection hpk with e1 e2
              subst e1 e2
              go_wp2
              refine bodyPost_ret (results_tmp3 rfl _ _ _) rfl ?_
              exact ⟨rfl, HBr.out⟩
            · rw [if_neg hgt] at hpk
              have HPK := Lib.hid (show pkGo j (s.picks.drop 0) 0 = (u, v) from hpk)
              clear hpk
              have HRK := Lib.hid HOr.out.rk
              go_wp2
              obtain ⟨wo, hwo⟩ : ∃ wo : World, wo = wr := ⟨_, rfl⟩
              subst hwo
              clear s0 s1 s2 s3 s4 s5 s6 s7 s8 s9 s10 s11 s12 s13 s14 s15
              go_loopw [9] (fun kv wr => ∃ i : Nat, i ≤ nk ∧ kv = .int .i64 i ∧ Hid (pkGo j (s.picks.drop i) i = (u, v)) ∧ Below wo.heap.size wo wr) (fun kv _ => nk - (intOf kv).toNat)
              case atStart => exact ⟨0, by omega, rfl, HPK, Below.refl _ _⟩
              case round =>
                obtain ⟨i, hi9, rfl, hgo, hbi⟩ := hrel
                clear HPK
                have HBI := Lib.hid hbi
                have HMI := Lib.hid (HMr.out.below hbi HMr.out.lt)
                have HRI := Lib.hid (ints_old HRK.out (.of_below hbi))
                clear hbi
                obtain ⟨s0, s1, s2, s3, s4, s5, s6, s7, s8, s9, s10, s11, s12, s13, s14, s15⟩ := sbox_cells HMI.out
                clear s0 s1 s2 s3 s4 s5 s6 s7 s8 s9 s10 s11 s12 s13
                by_cases hin9 : i < nk
                · obtain ⟨b, off, x, rfl, hb, hcx, hx, hwf⟩ := int_at HRI.out hin9
                  have hg3 := hgo.out
                  rw [drop_at hx] at hg3
                  unfold pkGo at hg3
                  have i0 : (0 : Int) ≤ (i : Int) := by omega
                  have i1 : (i : Int) < (nk : Int) := by omega
                  by_cases hx0 : x < 0
                  · rw [if_neg (by omega)] at hg3
                    injection hg3 with e1 e2
                    subst e1 e2
                    have hd1 : decide (x < 0) = true := by simpa using hx0
                    clear hgo hx hwf hx0
                    go_wp2
                    go_quiet (fail)
                    go_wp2
                    refine bodyPost_ret (results_tmp3 rfl _ _ _) rfl ?_
                    exact ⟨rfl, HBr.out.trans ((below_drewN HBI.out _).mono HBr.out.size)⟩
                  · have hd1 : decide (x < 0) = false := by simpa using hx0
                    by_cases hx1 : (j : Int) ≤ x
                    · rw [if_neg (by omega)] at hg3
                      injection hg3 with e1 e2
                      subst e1 e2
                      have hd2 : decide ((j : Int) ≤ x) = true := by simpa using hx1
                      clear hgo hx hwf hx0 hx1
                      go_wp2
                      go_quiet (fail)
                      go_wp2
                      refine bodyPost_ret (results_tmp3 rfl _ _ _) rfl ?_
                      exact ⟨rfl, HBr.out.trans ((below_drewN HBI.out _).mono HBr.out.size)⟩
                    · rw [if_pos (by omega)] at hg3
                      have HG := Lib.hid hg3
                      have hd2 : decide ((j : Int) ≤ x) = false := by simpa using hx1
                      clear hg3 hgo hx hwf hx0 hx1
                      go_wp2
                      go_quiet (fail)
                      go_wp2
                      go_roundw
                      case rel => exact ⟨i + 1, by omega, by go_num, HG, below_drewN HBI.out _⟩
                      case measure => simp [intOf]; omega
                · obtain rfl : i = nk := by omega
                  have hg3 := hgo.out
                  rw [show s.picks.drop i = [] from List.drop_eq_nil_of_le (by rw [HKL.out]; exact Nat.le_refl _)] at hg3
                  unfold pkGo at hg3
                  injection hg3 with e1 e2
                  subst e1 e2
                  clear hgo
                  go_wp2
                  refine bodyPost_ret (results_tmp3 rfl _ _ _) rfl ?_
                  exact ⟨rfl, HBr.out.trans (HBI.out.mono HBr.out.size)⟩
      · rw [if_pos hi] at hv
        simp only [Prod.mk.injEq] at hv
        obtain ⟨rfl, rfl, rfl⟩ := hv
        have hi2 : ((s.ni : Int) != s.q.w) = true := by simp [hi]
        clear hi hn
        go_enter Tryd.func20, Tryd.ntmps20
        go_wp2_with (first | (go_at_call 43; (with_reducible refine (hck _).mono ?_); rintro e w1 ⟨rfl, hb1⟩; have HB1 := Lib.hid (HB.out.trans (hb1.mono (by rw [size_new]; omega))); have HM1 := Lib.hid (HM.out.below hb1 HM.out.lt); clear hb1; obtain ⟨s0, s1, s2, s3, s4, s5, s6, s7, s8, s9, s10, s11, s12, s13, s14, s15⟩ := sbox_cells HM1.out))
        refine bodyPost_ret (results_tmp3 rfl _ _ _) rfl ?_
        exact ⟨rfl, HB1.out⟩
  · rw [if_pos hc0] at hv
    simp only [Prod.mk.injEq] at hv
    obtain ⟨rfl, rfl, rfl⟩ := hv
    have hck : ∀ w, Calls Tryd.prog 43 #[cfgV s.q] w fun e w' => e = .returned (.int .i64 c) ∧ Below w.heap.size w w' := fun w => by
      have h := LayC.r_check s.q w
      rw [HC.out] at h
      exact h
    have hc1 : (c != 0) = true := by simpa using hc0
    clear hc hc0
    go_enter Tryd.func20, Tryd.ntmps20
    go_wp2_with (first | (go_at_call 43; (with_reducible refine (hck _).mono ?_); rintro e w1 ⟨rfl, hb1⟩; have HB1 := Lib.hid (HB.out.trans (hb1.mono (by rw [size_new]; omega))); have HM1 := Lib.hid (HM.out.below hb1 HM.out.lt); clear hb1; obtain ⟨s0, s1, s2, s3, s4, s5, s6, s7, s8, s9, s10, s11, s12, s13, s14, s15⟩ := sbox_cells HM1.out))
    refine bodyPost_ret (results_tmp3 rfl _ _ _) rfl ?_
    exact ⟨rfl, HB1.out⟩
end Go.Proofs.YthnhmclnfgkppaaDoor.ScrC
