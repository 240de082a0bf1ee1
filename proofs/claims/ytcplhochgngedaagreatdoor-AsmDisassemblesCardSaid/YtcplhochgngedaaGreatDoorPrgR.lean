/-
  Contracts of the reference of layer 6: Span, reaches, Check.
-/
import Derived.Test.YtcplhochgngedaaGreatDoorPrgS
namespace Go.Proofs.YtcplhochgngedaaGreatDoor.PrgR
open Go.ChangeShapes Go.WideShapes Go.ChangeAt Go.RowKit
open PlainT IsaE IsaS BlkW IsaA IsaB IsaF RefA RefB PrgS
set_option linter.unusedVariables false
set_option maxHeartbeats 1000000

set_option maxRecDepth 100000 in
theorem r_span (A : Option Addr) (n c : Nat) (ps : List I5) (t : Int) (w : World) (hc : n ≤ c) (hm : n ≤ 4000000) (ht : InInt t) (h : RowI w A n ps) (u v : Int) (hv : spanV ps t = (u, v)) :
    Calls Tryz.prog 96 #[.slice A n c, .int .i64 t] w fun e w' => e = .returned (.tuple #[.int .i64 u, .int .i64 v]) ∧ w = w' := by
  have hl := h.1
  have HV := Lib.hid (show spanGo t n (ps.drop 0) 0 (-1) = (u, v) by rw [← hl]; exact hv)
  have HR := Lib.hid h
  obtain ⟨t1, t2⟩ := ht
  clear h hv hl
  go_enter Tryz.func96, Tryz.ntmps96
  go_wp2
  go_loop [6, 7] (fun bv kv => ∃ (k : Nat) (b : Int), k ≤ n ∧ -1 ≤ b ∧ b ≤ n ∧ bv = .int .i64 b ∧ kv = .int .i64 k ∧ Hid (spanGo t n (ps.drop k) k b = (u, v))) (fun _ kv => n - (intOf kv).toNat)
  case atStart => exact ⟨0, -1, by omega, by omega, by omega, rfl, rfl, HV⟩
  case round =>
    obtain ⟨k, b, hk, hb1, hb2, rfl, rfl, hgo⟩ := hrel
    clear HV
    by_cases hkn : k < n
    · obtain ⟨g, off, x, rfl, hg, hx, c0, _⟩ := HR.out.at hkn
      have hg2 := hgo.out
      rw [drop_cons_of hx] at hg2
      unfold spanGo at hg2
      by_cases hb0 : b < 0
      · by_cases h7 : x.op = 7
        · rw [if_pos ⟨hb0, h7⟩] at hg2
          have HG := Lib.hid hg2
          rw [h7] at c0
          clear hg2 hgo
          go_wp2
          go_round
          case rel => exact ⟨k + 1, k, by omega, by omega, by omega, rfl, by go_num, HG⟩
          case measure => simp [intOf]; omega
        · rw [if_neg (fun h => h7 h.2), if_neg (fun h => by omega)] at hg2
          have HG := Lib.hid hg2
          have h7' : (x.op == 7) = false := beq_eq_false_iff_ne.2 h7
          clear hg2 hgo
          go_wp2
          go_round
          case rel => exact ⟨k + 1, b, by omega, by omega, by omega, rfl, by go_num, HG⟩
          case measure => simp [intOf]; omega
      · have hb0' : 0 ≤ b := by omega
        by_cases h8 : x.op = 8
        · rw [if_neg (fun h => hb0 h.1), if_pos ⟨hb0', h8⟩] at hg2
          rw [h8] at c0
          by_cases hin : b ≤ t ∧ t ≤ k
          · rw [if_pos hin] at hg2
            obtain ⟨i1, i2⟩ := hin
            injection hg2 with e1 e2
            subst e1 e2
            clear hgo
            go_wp2
            refine bodyPost_ret (results_tmp2 rfl _ _ _) rfl ?_
            exact ⟨rfl, rfl⟩
          · rw [if_neg hin] at hg2
            have HG := Lib.hid hg2
            clear hg2 hgo
            rcases (show t < b ∨ b ≤ t ∧ (k : Int) < t by omega) with h1 | ⟨h1, h2⟩
            · clear hin
              go_wp2
              go_round
              case rel => exact ⟨k + 1, -1, by omega, by omega, by omega, rfl, by go_num, HG⟩
              case measure => simp [intOf]; omega
            · clear hin
              go_wp2
              go_round
              case rel => exact ⟨k + 1, -1, by omega, by omega, by omega, rfl, by go_num, HG⟩
              case measure => simp [intOf]; omega
        · rw [if_neg (fun h => hb0 h.1), if_neg (fun h => h8 h.2)] at hg2
          have HG := Lib.hid hg2
          have h8' : (x.op == 8) = false := beq_eq_false_iff_ne.2 h8
          clear hg2 hgo
          go_wp2
          go_round
          case rel => exact ⟨k + 1, b, by omega, by omega, by omega, rfl, by go_num, HG⟩
          case measure => simp [intOf]; omega
    · obtain rfl : k = n := by omega
      have hg2 := hgo.out
      rw [show ps.drop k = [] from List.drop_eq_nil_of_le (by rw [HR.out.1]; exact Nat.le_refl _)] at hg2
      unfold spanGo at hg2
      clear hgo
      by_cases h1 : 0 ≤ b
      · by_cases h2 : b ≤ t
        · by_cases h3 : t < k
          · rw [if_pos ⟨h1, h2, h3⟩] at hg2
            injection hg2 with e1 e2
            subst e1 e2
            go_wp2
            refine bodyPost_ret (results_tmp2 rfl _ _ _) rfl ?_
            exact ⟨rfl, rfl⟩
          · rw [if_neg (fun h => h3 h.2.2)] at hg2
            injection hg2 with e1 e2
            subst e1 e2
            go_wp2
            refine bodyPost_ret (results_tmp2 rfl _ _ _) rfl ?_
            exact ⟨rfl, rfl⟩
        · rw [if_neg (fun h => h2 h.2.1)] at hg2
          injection hg2 with e1 e2
          subst e1 e2
          go_wp2
          refine bodyPost_ret (results_tmp2 rfl _ _ _) rfl ?_
          exact ⟨rfl, rfl⟩
      · rw [if_neg (fun h => h1 h.1)] at hg2
        injection hg2 with e1 e2
        subst e1 e2
        go_wp2
        refine bodyPost_ret (results_tmp2 rfl _ _ _) rfl ?_
        exact ⟨rfl, rfl⟩
set_option maxRecDepth 100000 in
theorem r_reaches (A : Option Addr) (n c : Nat) (ps : List I5) (k t : Int) (w : World) (hc : n ≤ c) (hm : n ≤ 4000000) (hk : InInt k) (ht : InInt t) (h : RowI w A n ps) (v : Bool) (hv : reachesV ps k t = v) :
    Calls Tryz.prog 72 #[.slice A n c, .int .i64 k, .int .i64 t] w fun e w' => e = .returned (.bool v) ∧ w = w' := by
  have hl := h.1
  unfold reachesV at hv
  rw [hl] at hv
  have HR := Lib.hid h
  have HK := Lib.hid hk
  have HT := Lib.hid ht
  obtain ⟨t1, t2⟩ := ht
  clear h hk
  by_cases h1 : (n : Int) < t
  · rw [if_pos h1] at hv
    subst hv
    go_enter Tryz.func72, Tryz.ntmps72
    go_wp2
    go_ret
    exact ⟨rfl, rfl⟩
  · rw [if_neg h1] at hv
    obtain ⟨⟨u, y⟩, hs⟩ : ∃ q, spanV ps k = q := ⟨_, rfl⟩
    rw [hs] at hv
    simp only at hv
    by_cases h2 : 0 ≤ u
    · rw [if_pos h2] at hv
      subst hv
      clear hl
      go_enter Tryz.func72, Tryz.ntmps72
      go_wp2_with (go_at_call 96; refine (r_span A n c ps k _ hc hm HK.out HR.out u y hs).mono ?_; rintro e w1 ⟨rfl, rfl⟩)
      go_ret
      exact ⟨rfl, rfl⟩
    · rw [if_neg h2] at hv
      obtain ⟨⟨u2, y2⟩, hs2⟩ : ∃ q, spanV ps t = q := ⟨_, rfl⟩
      rw [hs2] at hv
      simp only at hv
      subst hv
      clear hl
      by_cases h3 : u2 < 0
      · go_enter Tryz.func72, Tryz.ntmps72
        go_wp2_with (first
          | (go_at_call 96; (with_reducible refine (r_span A n c ps k _ hc hm HK.out HR.out u y hs).mono ?_); rintro e w1 ⟨rfl, rfl⟩)
          | (go_at_call 96; (with_reducible refine (r_span A n c ps t _ hc hm HT.out HR.out u2 y2 hs2).mono ?_); rintro e w1 ⟨rfl, rfl⟩))
        go_ret
        exact ⟨by simp [h3], rfl⟩
      · go_enter Tryz.func72, Tryz.ntmps72
        go_wp2_with (first
          | (go_at_call 96; (with_reducible refine (r_span A n c ps k _ hc hm HK.out HR.out u y hs).mono ?_); rintro e w1 ⟨rfl, rfl⟩)
          | (go_at_call 96; (with_reducible refine (r_span A n c ps t _ hc hm HT.out HR.out u2 y2 hs2).mono ?_); rintro e w1 ⟨rfl, rfl⟩))
        go_ret
        exact ⟨rfl, rfl⟩
end Go.Proofs.YtcplhochgngedaaGreatDoor.PrgR
