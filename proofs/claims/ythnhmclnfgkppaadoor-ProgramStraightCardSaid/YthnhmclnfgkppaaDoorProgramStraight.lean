/-
  Proved: a made program of which the jumps and the aborts are taken out has its length as the longest path, and Needs counts each instruction of a transaction. No condition.
-/
import Derived.Test.YthnhmclnfgkppaaDoorRows
import Derived.WalkKit
import Derived.ProofKit
import Derived.OpenShut
import Derived.Test.YthnhmclnfgkppaaDoorFrame
import Derived.LaidMore
import Derived.Stop.Joined
import Derived.SevenTiedAt
import Derived.Test.YthnhmclnfgkppaaDoorTie
import Derived.Test.YthnhmclnfgkppaaDoorCards
import Derived.Test.YthnhmclnfgkppaaDoorPgK
import Derived.Test.YthnhmclnfgkppaaDoorPrgY
import Derived.Test.YthnhmclnfgkppaaDoorScrP
import Derived.Test.YthnhmclnfgkppaaDoorLayO
import Derived.Deep.DeepCutAuto
import Derived.Deep.CutBlock
namespace Go.Proofs.YthnhmclnfgkppaaDoor.programStraight
open Go.ChangeShapes Go.WideShapes Go.ChangeAt Go.RowKit
open LawFrame
open Go.ChangeMaps (open_string)
set_option linter.unusedVariables false

theorem own : ownKnob Tryd.prog.godebug = none := by kernel_rfl
theorem laidOut : laidOutB Tryd.prog = true := by kernel_rfl
theorem cells3 : Tryd.prog.cellsOf 3 = 1 := by kernel_rfl

open PlainT BlkW IsaE IsaS IsaA IsaB IsaF PrgS PrgC PrgG PgS PgT PgE PgF PgV PgN PgO PgK
set_option maxHeartbeats 8000000
set_option maxRecDepth 100000
theorem take_keep {ps : List I5} {i : Nat} {x : I5} (hx : ps[i]? = some x) (hk : keepB x = true) : (ps.take (i + 1)).filter keepB = (ps.take i).filter keepB ++ [x] := by
  rw [List.take_add_one, hx, List.filter_append]
  simp [hk]
theorem take_drop {ps : List I5} {i : Nat} {x : I5} (hx : ps[i]? = some x) (hk : keepB x = false) : (ps.take (i + 1)).filter keepB = (ps.take i).filter keepB := by
  rw [List.take_add_one, hx, List.filter_append]
  simp [hk]

theorem readable : ∀ t ∈ Tryd.f5.params.toList, Tryd.prog.readableRec t = true ∧ t < Tryd.prog.types.size := by
  have h : (Tryd.f5.params.toList.all fun t => Tryd.prog.readableRec t && decide (t < Tryd.prog.types.size)) = true := by kernel_rfl
  intro t ht
  have := List.all_eq_true.1 h t ht
  simpa using this

/-! The walk. -/
theorem walk (w : World) (hL : laidMetH Tryd.prog [("strongtx/isa.shapes", Rows.laid_strongtx_isa_shapes)] w) (A0 : Option Addr) (n0 c0 : Nat) (z0 : List Int) (l0 : n0 ≤ c0) (m0 : c0 ≤ maxLen) (s0 : Ints .i64 w A0 n0 z0) :
    Calls Tryd.prog 5 #[.slice A0 n0 c0] w fun e w' => e = .returned (.bool true) ∧ Kept w w' := by
  show Calls _ _ #[.slice A0 n0 c0] _ _
  have hE := env_of_laid hL
  clear hL
  have HE := Lib.hid hE
  have HI := Lib.hid s0
  clear hE s0
  by_cases hbig : 60 < n0
  · have hbI : (60 : Int) < n0 := by omega
    go_enter Tryd.func5, Tryd.ntmps5
    go_wp2_with (go_at_call 7; refine (l_awake _ HE.out).mono ?_; rintro e w4 ⟨rfl, hb4⟩; have HB4 := Lib.hid hb4; clear hb4)
    go_ret
    exact ⟨rfl, Kept.of_below HB4.out⟩
  · have hbI : ¬ (60 : Int) < n0 := by omega
    go_enter Tryd.func5, Tryd.ntmps5
    go_upto_region 4 with (go_at_call 8; refine (PrgY.k_program A0 n0 c0 z0 40 true true w l0 m0 (by omega) (by omega) HI.out).mono ?_; rintro e w1 ⟨A, c, ps, rfl, hgood, hb1⟩)
    obtain ⟨hl40, hrc, hok, hown⟩ := hgood
    have hR1 := OwnS.rowI_of_own hown
    obtain ⟨A1, c1, hee, hmc, hmx⟩ := Own.own_slice hown
    injection hee with e1 _ e2
    subst e1 e2
    have hv : Valid ps := valid_of (by rw [hrc])
    have hE1 := HE.out.below hb1
    obtain ⟨m, hm⟩ : ∃ m, ps.length = m := ⟨_, rfl⟩
    rw [hm] at hR1 hmc hl40 ⊢
    have HR1 := Lib.hid hR1
    have HV := Lib.hid hv
    have HE1 := Lib.hid hE1
    have HB1 := Lib.hid hb1
    have HOK := Lib.hid hok
    have HL := Lib.hid hm
    clear hR1 hv hE1 hb1 hmc hmx hrc hok hown hm
    go_wp2_with fail
    go_loopw [4, 5] (fun pv iv wr => ∃ (i n : Nat) (A' : Option Addr) (c' : Nat), iv = .int .i64 i ∧ pv = .slice A' n c' ∧ i ≤ m ∧ Hid (n = ((ps.take i).filter keepB).length ∧ wr.ownsRow w1.heap.size 31 5 (.slice A' n c') n (cellsI ((ps.take i).filter keepB)) ∧ Below w1.heap.size w1 wr)) (fun _ iv _ => m - (intOf iv).toNat)
    case atStart => exact ⟨0, 0, none, 0, rfl, rfl, by omega, Lib.hid ⟨by simp, World.ownsRow_nil _ _ _ _, Below.refl _ _⟩⟩
    case round =>
      obtain ⟨i, n, A', c', rfl, rfl, hi, hh⟩ := hrel
      by_cases him : i < m
      · have himI : (i : Int) < m := by omega
        obtain ⟨hn, hown, hbw⟩ := hh.out
        have HRw := Lib.hid (HR1.out.below hbw)
        obtain ⟨g, off, x, rfl, hg, hx, y0, y1, y2, y3, y4⟩ := HRw.out.at him
        have HX := Lib.hid hx
        have HBW := Lib.hid hbw
        have hn40 : n ≤ 300000 := by have := List.length_filter_le keepB (ps.take i); have := List.length_take_le i ps; omega
        by_cases hk : keepB x = true
        · obtain ⟨k4, k5, k6, k9⟩ := keep_iff.1 hk
          obtain ⟨A2, c2, w2, hrun, hown2, hb2, _, _⟩ := Own.push_i (B := w1.heap.size) hbw.size hown hn40 x.op x.a x.b x.c x.i
          have k4' : (x.op != 4) = true := bne_iff_ne.2 k4
          have k5' : (x.op != 5) = true := bne_iff_ne.2 k5
          have k6' : (x.op != 6) = true := bne_iff_ne.2 k6
          have k9' : (x.op != 9) = true := bne_iff_ne.2 k9
          have HRUN := Lib.hid hrun
          have HN : Hid (n + 1 = ((ps.take (i + 1)).filter keepB).length ∧ w2.ownsRow w1.heap.size 31 5 (.slice A2 (n + 1) c2) (n + 1) (cellsI ((ps.take (i + 1)).filter keepB)) ∧ Below w1.heap.size w1 w2) := Lib.hid ⟨by rw [take_keep hx hk, List.length_append, ← hn]; rfl, by rw [take_keep hx hk, PrgY.cellsI_snoc]; exact hown2, hbw.trans hb2⟩
          clear hk k4 k5 k6 k9 hrun hown2 hb2 hn hown hh hx hbw
          go_wp2_with (at_builtin; refine Own.wpList_append_run rfl _ _ _ rfl HRUN.out (by rfl) (by rfl) ?_)
          go_roundw
          case rel => exact ⟨i + 1, n + 1, A2, c2, by go_num, rfl, by omega, HN⟩
          case measure => simp [intOf]; omega
        · have hk' : keepB x = false := by simpa using hk
          have hx4 : x.op = 4 ∨ x.op = 5 ∨ x.op = 6 ∨ x.op = 9 := by
            have : ¬ (x.op ≠ 4 ∧ x.op ≠ 5 ∧ x.op ≠ 6 ∧ x.op ≠ 9) := fun hc => hk (keep_iff.2 hc)
            omega
          have HN : Hid (n = ((ps.take (i + 1)).filter keepB).length ∧ wr.ownsRow w1.heap.size 31 5 (.slice A' n c') n (cellsI ((ps.take (i + 1)).filter keepB)) ∧ Below w1.heap.size w1 wr) := Lib.hid ⟨by rw [take_drop hx hk']; exact hn, by rw [take_drop hx hk']; exact hown, hbw⟩
          clear hk hk' hn hown hh hx hbw
          rcases hx4 with h4 | h4 | h4 | h4
          all_goals
            rw [h4] at y0
            clear h4
            go_wp2_with fail
            go_roundw
            case rel => exact ⟨i + 1, n, A', c', by go_num, rfl, by omega, HN⟩
            case measure => simp [intOf]; omega
      · obtain rfl : i = m := by omega
        obtain ⟨hn, hown, hbw⟩ := hh.out
        rw [List.take_of_length_le (by rw [HL.out]; exact Nat.le_refl _)] at hn hown
        have hv2 := filter_valid HV.out
        have hs2 := filter_str ps
        obtain ⟨qs, hq⟩ : ∃ qs, ps.filter keepB = qs := ⟨_, rfl⟩
        rw [hq] at hn hown hv2 hs2
        subst hn
        have hR2 := OwnS.rowI_of_own hown
        obtain ⟨A1, c1, hee, hmc, hmx⟩ := Own.own_slice hown
        injection hee with e1 _ e2
        subst e1 e2
        obtain ⟨n, hn⟩ : ∃ n, qs.length = n := ⟨_, rfl⟩
        rw [hn] at hR2 hmc ⊢
        have hlong : ∀ R, PgV.Rest qs wOne 0 ((n : Int) - 1) R → R 0 = n := fun R h => by
          rw [← hn] at h ⊢
          exact str_long hs2 h
        have hn64 : n ≤ 64 := by have := hv2.len; omega
        have HLG := Lib.hid hlong
        have HV2 := Lib.hid hv2
        have HS2 := Lib.hid hs2
        have HR2 := Lib.hid hR2
        have HMC := Lib.hid hmc
        have HMX := Lib.hid hmx
        have HN := Lib.hid hn
        have HE2 := Lib.hid (HE1.out.below hbw)
        have HB2 := Lib.hid (HB1.out.trans (hbw.mono HB1.out.size))
        clear hlong hv2 hs2 hR2 hmc hmx hn hbw hown hq hh HV HR1 HE1 HB1 HL HOK
        go_upto_region 12 with (go_at_call 11; refine (a_longest A' n c' qs _ HE2.out HMC.out HMX.out HR2.out HV2.out).mono ?_; rintro e w2 ⟨⟨R, hr, _, rfl⟩, hb2⟩; rw [HLG.out R hr]; have HB3 := Lib.hid (HB2.out.trans (hb2.mono HB2.out.size)); have HE3 := Lib.hid (HE2.out.below hb2); have HR3 := Lib.hid (HR2.out.below hb2); clear hr hb2)
        go_wp2_with fail
        go_loopw [7] (fun kv wr2 => ∃ k : Nat, kv = .int .i64 k ∧ k ≤ n ∧ Hid (Below w2.heap.size w2 wr2)) (fun kv _ => n - (intOf kv).toNat)
        case atStart => exact ⟨0, rfl, by omega, Lib.hid (Below.refl _ _)⟩
        case round =>
          obtain ⟨k, rfl, hk, hbw⟩ := hrel
          by_cases hkn : k < n
          · have hknI : (k : Int) < n := by omega
            obtain ⟨g, off, rfl, hg, hcl⟩ := HR3.out.2 (by omega)
            have hcell : ∀ W, Below w2.heap.size w2 W → ∀ (j : Nat) (z : I5), qs[j]? = some z → W.cell? ⟨g, off + j * 5, none⟩ = some (.int .i64 z.op) ∧ W.cell? ⟨g, off + j * 5 + 4, none⟩ = some (.int .i64 z.i) := fun W hb j z hz => by
              obtain ⟨hj, hjz⟩ := List.getElem?_eq_some_iff.1 hz
              rw [← hjz]
              exact ⟨(hb.cell (p := ⟨g, off + j * 5, none⟩) hg).trans (hcl j hj).1, (hb.cell (p := ⟨g, off + j * 5 + 4, none⟩) hg).trans (hcl j hj).2.2.2.2⟩
            have HC := Lib.hid hcell
            obtain ⟨x, hx⟩ : ∃ x, qs[k]? = some x := ⟨_, List.getElem?_eq_getElem (by rw [HN.out]; exact hkn)⟩
            have ck := (HC.out _ hbw.out k x hx).1
            clear hg hcl hcell
            by_cases h7 : x.op = 7
            · obtain ⟨t, ht, ht1, hct, hkt, htl⟩ := HV2.out.commitV_begin hx h7
              obtain ⟨jc, hjc⟩ : ∃ jc : Nat, t.2 = jc := ⟨t.2.toNat, by omega⟩
              rw [hjc] at hct hkt htl
              obtain ⟨jc', y, hy, hy8, hyc⟩ := tx_commit8 ht (by rw [hjc]; exact htl)
              obtain rfl : jc' = jc := by omega
              have hjn : jc' < n := by rw [← HN.out]; omega
              have hjnI : (jc' : Int) < n := by omega
              have hkj : k < jc' := by omega
              have hjl : jc' < qs.length := by rw [HN.out]; exact hjn
              have hins : ∀ (j : Nat) (z : I5), qs[j]? = some z → k < j → j < jc' → z.op ≠ 7 ∧ z.op ≠ 8 := fun j z hz h1 h2 => HV2.out.inside ht hz (by omega) (by omega)
              obtain ⟨b1, b2, b3, b4⟩ := w_begin (x := x) (.inl h7)
              obtain ⟨d1, d2, d3, d4⟩ := w_begin (x := y) (.inr hy8)
              have hst : Cnt qs wRd k jc' (k + 1) 0 ∧ Cnt qs wWr k jc' (k + 1) 0 ∧ Cnt qs wAl k jc' (k + 1) 0 ∧ Cnt qs wFr k jc' (k + 1) 0 := ⟨cnt_start HS2.out hjl (nn_rd qs) hx (by omega) b1, cnt_start HS2.out hjl (nn_wr HV2.out) hx (by omega) b2, cnt_start HS2.out hjl (nn_al qs) hx (by omega) b3, cnt_start HS2.out hjl (nn_fr qs) hx (by omega) b4⟩
              have hen : ∀ (r v a f : Int), Cnt qs wRd k jc' jc' r ∧ Cnt qs wWr k jc' jc' v ∧ Cnt qs wAl k jc' jc' a ∧ Cnt qs wFr k jc' jc' f → ∀ e, NdIs qs k jc' e → e = .returned (.tuple #[.int .i64 r, .int .i64 v, .int .i64 a, .int .i64 f]) := fun r v a f hc e he => by
                obtain ⟨R1, R2, R3, R4, r1, r2, r3, r4, rfl⟩ := he
                rw [cnt_end HS2.out hjl (nn_rd qs) hc.1 hy (by omega) d1 r1, cnt_end HS2.out hjl (nn_wr HV2.out) hc.2.1 hy (by omega) d2 r2, cnt_end HS2.out hjl (nn_al qs) hc.2.2.1 hy (by omega) d3 r3, cnt_end HS2.out hjl (nn_fr qs) hc.2.2.2 hy (by omega) d4 r4]
              have hnd := a_needs (some ⟨g, off, none⟩) n c' qs k jc' wr (HE3.out.below hbw.out) HMC.out HMX.out (HR3.out.below hbw.out) HV2.out hct (by omega) (by omega)
              have HST := Lib.hid hst
              have HEN := Lib.hid hen
              have HND := Lib.hid hnd
              have HINS := Lib.hid hins
              have HY := Lib.hid hy
              have HY8 := Lib.hid hy8
              rw [h7] at ck
              clear hx h7 ht ht1 hct hkt htl hjc hyc hy hy8 hins hst hen hnd b1 b2 b3 b4 d1 d2 d3 d4
              go_wp2_with fail
              go_loopw [8, 9, 10, 11, 12] (fun rv vv av fv iv wr3 => ∃ (i : Nat) (r v a f : Int), rv = .int .i64 r ∧ vv = .int .i64 v ∧ av = .int .i64 a ∧ fv = .int .i64 f ∧ iv = .int .i64 i ∧ k + 1 ≤ i ∧ i ≤ jc' ∧ 0 ≤ r ∧ r ≤ 10 * (i : Int) ∧ 0 ≤ v ∧ v ≤ 10 * (i : Int) ∧ 0 ≤ a ∧ a ≤ 10 * (i : Int) ∧ 0 ≤ f ∧ f ≤ 10 * (i : Int) ∧ Hid (Cnt qs wRd k jc' i r ∧ Cnt qs wWr k jc' i v ∧ Cnt qs wAl k jc' i a ∧ Cnt qs wFr k jc' i f) ∧ wr3 = wr) (fun _ _ _ _ iv _ => jc' - (intOf iv).toNat)
              case atStart => exact ⟨k + 1, 0, 0, 0, 0, rfl, rfl, rfl, rfl, by go_num, by omega, by omega, by omega, by omega, by omega, by omega, by omega, by omega, by omega, by omega, HST, rfl⟩
              case round =>
                obtain ⟨i, r, v, a, f, rfl, rfl, rfl, rfl, rfl, hi1, hi2, r0, r1, v0, v1, a0, a1, f0, f1, hcn, rfl⟩ := hrel
                by_cases hij : i < jc'
                · have hijI : (i : Int) < jc' := by omega
                  have hin : (i : Int) < n := by omega
                  have hi64 : (i : Int) < 64 := by omega
                  obtain ⟨z, hz⟩ : ∃ z, qs[i]? = some z := ⟨_, List.getElem?_eq_getElem (by rw [HN.out]; omega)⟩
                  obtain ⟨z7, z8⟩ := HINS.out i z hz (by omega) hij
                  obtain ⟨cz, cm⟩ := HC.out _ hbw.out i z hz
                  have hzc := HV2.out.chk hz
                  have HCZ : Hid (∀ r' v' a' f' : Int, r' = r + wRd z → v' = v + wWr z → a' = a + wAl z → f' = f + wFr z → Cnt qs wRd k jc' (i + 1) r' ∧ Cnt qs wWr k jc' (i + 1) v' ∧ Cnt qs wAl k jc' (i + 1) a' ∧ Cnt qs wFr k jc' (i + 1) f') := Lib.hid fun r' v' a' f' e1 e2 e3 e4 => by
                    subst e1 e2 e3 e4
                    exact ⟨cnt_step HS2.out hjl (nn_rd qs) hcn.out.1 hz (by omega) (by omega), cnt_step HS2.out hjl (nn_wr HV2.out) hcn.out.2.1 hz (by omega) (by omega), cnt_step HS2.out hjl (nn_al qs) hcn.out.2.2.1 hz (by omega) (by omega), cnt_step HS2.out hjl (nn_fr qs) hcn.out.2.2.2 hz (by omega) (by omega)⟩
                  have z8' : (z.op != 8) = true := bne_iff_ne.2 z8
                  clear hcn hz z7
                  by_cases h10 : z.op = 10
                  · have q1 : wRd z = 1 := one_on (by simp [h10])
                    have q2 : wWr z = 0 := by unfold wWr; rw [if_neg (by omega)]; exact one_off (by simp; omega)
                    have q3 : wAl z = 0 := one_off (by simp; omega)
                    have q4 : wFr z = 0 := one_off (by simp; omega)
                    have HQ := Lib.hid (HCZ.out (r + 1) v a f (by omega) (by omega) (by omega) (by omega))
                    rw [h10] at cz z8'
                    clear z8 h10 q1 q2 q3 q4 hzc cm
                    go_wp2_with fail
                    go_roundw
                    case rel => exact ⟨i + 1, r + 1, v, a, f, rfl, rfl, rfl, rfl, by go_num, by omega, by omega, by omega, by omega, by omega, by omega, by omega, by omega, by omega, by omega, HQ, by first | rfl | trivial⟩
                    case measure => simp [intOf]; omega
                  · by_cases h11 : z.op = 11
                    · have q1 : wRd z = 0 := one_off (by simp; omega)
                      have q2 : wWr z = 1 := by unfold wWr; rw [if_neg (by omega)]; exact one_on (by simp [h11])
                      have q3 : wAl z = 0 := one_off (by simp; omega)
                      have q4 : wFr z = 0 := one_off (by simp; omega)
                      have HQ := Lib.hid (HCZ.out r (v + 1) a f (by omega) (by omega) (by omega) (by omega))
                      rw [h11] at cz z8'
                      clear z8 h10 h11 q1 q2 q3 q4 hzc cm
                      go_wp2_with fail
                      go_roundw
                      case rel => exact ⟨i + 1, r, v + 1, a, f, rfl, rfl, rfl, rfl, by go_num, by omega, by omega, by omega, by omega, by omega, by omega, by omega, by omega, by omega, by omega, HQ, by first | rfl | trivial⟩
                      case measure => simp [intOf]; omega
                    · by_cases h14 : z.op = 14
                      · obtain ⟨i0, i3⟩ := al_imm hzc h14
                        have q1 : wRd z = 0 := one_off (by simp; omega)
                        have q3 : wAl z = 1 := one_on (by simp [h14])
                        have q4 : wFr z = 0 := one_off (by simp; omega)
                        have hzi : z.i = 0 ∨ z.i = 1 ∨ z.i = 2 ∨ z.i = 3 := by omega
                        have q2 : wWr z = 2 ^ z.i.toNat + 1 := by unfold wWr; rw [if_pos h14]
                        rw [h14] at cz z8'
                        have H1 := Lib.hid q1
                        have H3 := Lib.hid q3
                        have H4 := Lib.hid q4
                        clear z8 h10 h11 h14 q1 q3 q4 hzc i0 i3
                        rcases hzi with e | e | e | e
                        · rw [e] at cm q2
                          have H2 := Lib.hid (show wWr z = 2 from q2)
                          clear q2 e
                          go_wp2_with fail
                          go_roundw
                          case rel => exact ⟨i + 1, r, _, a + 1, f, rfl, rfl, rfl, rfl, by go_num, by omega, by omega, by omega, by omega, by omega, by omega, by omega, by omega, by omega, by omega, Lib.hid (HCZ.out _ _ _ _ (by have := H1.out; omega) (by have := H2.out; omega) (by have := H3.out; omega) (by have := H4.out; omega)), by first | rfl | trivial⟩
                          case measure => simp [intOf]; omega
                        · rw [e] at cm q2
                          have H2 := Lib.hid (show wWr z = 3 from q2)
                          clear q2 e
                          go_wp2_with fail
                          go_roundw
                          case rel => exact ⟨i + 1, r, _, a + 1, f, rfl, rfl, rfl, rfl, by go_num, by omega, by omega, by omega, by omega, by omega, by omega, by omega, by omega, by omega, by omega, Lib.hid (HCZ.out _ _ _ _ (by have := H1.out; omega) (by have := H2.out; omega) (by have := H3.out; omega) (by have := H4.out; omega)), by first | rfl | trivial⟩
                          case measure => simp [intOf]; omega
                        · rw [e] at cm q2
                          have H2 := Lib.hid (show wWr z = 5 from q2)
                          clear q2 e
                          go_wp2_with fail
                          go_roundw
                          case rel => exact ⟨i + 1, r, _, a + 1, f, rfl, rfl, rfl, rfl, by go_num, by omega, by omega, by omega, by omega, by omega, by omega, by omega, by omega, by omega, by omega, Lib.hid (HCZ.out _ _ _ _ (by have := H1.out; omega) (by have := H2.out; omega) (by have := H3.out; omega) (by have := H4.out; omega)), by first | rfl | trivial⟩
                          case measure => simp [intOf]; omega
                        · rw [e] at cm q2
                          have H2 := Lib.hid (show wWr z = 9 from q2)
                          clear q2 e
                          go_wp2_with fail
                          go_roundw
                          case rel => exact ⟨i + 1, r, _, a + 1, f, rfl, rfl, rfl, rfl, by go_num, by omega, by omega, by omega, by omega, by omega, by omega, by omega, by omega, by omega, by omega, Lib.hid (HCZ.out _ _ _ _ (by have := H1.out; omega) (by have := H2.out; omega) (by have := H3.out; omega) (by have := H4.out; omega)), by first | rfl | trivial⟩
                          case measure => simp [intOf]; omega
                      · by_cases h15 : z.op = 15
                        · have q1 : wRd z = 1 := one_on (by simp [h15])
                          have q2 : wWr z = 1 := by unfold wWr; rw [if_neg (by omega)]; exact one_on (by simp [h15])
                          have q3 : wAl z = 0 := one_off (by simp; omega)
                          have q4 : wFr z = 1 := one_on (by simp [h15])
                          have HQ := Lib.hid (HCZ.out (r + 1) (v + 1) a (f + 1) (by omega) (by omega) (by omega) (by omega))
                          rw [h15] at cz z8'
                          clear z8 h10 h11 h14 h15 q1 q2 q3 q4 hzc cm
                          go_wp2_with fail
                          go_roundw
                          case rel => exact ⟨i + 1, r + 1, v + 1, a, f + 1, rfl, rfl, rfl, rfl, by go_num, by omega, by omega, by omega, by omega, by omega, by omega, by omega, by omega, by omega, by omega, HQ, by first | rfl | trivial⟩
                          case measure => simp [intOf]; omega
                        · have q1 : wRd z = 0 := one_off (by simp; omega)
                          have q2 : wWr z = 0 := by unfold wWr; rw [if_neg h14]; exact one_off (by simp; omega)
                          have q3 : wAl z = 0 := one_off (by simp; omega)
                          have q4 : wFr z = 0 := one_off (by simp; omega)
                          have HQ := Lib.hid (HCZ.out r v a f (by omega) (by omega) (by omega) (by omega))
                          have p1 : (z.op == 10) = false := beq_eq_false_iff_ne.2 h10
                          have p2 : (z.op == 11) = false := beq_eq_false_iff_ne.2 h11
                          have p3 : (z.op == 14) = false := beq_eq_false_iff_ne.2 h14
                          have p4 : (z.op == 15) = false := beq_eq_false_iff_ne.2 h15
                          clear z8 h10 h11 h14 h15 q1 q2 q3 q4 hzc cm
                          go_wp2_with fail
                          go_roundw
                          case rel => exact ⟨i + 1, r, v, a, f, rfl, rfl, rfl, rfl, by go_num, by omega, by omega, by omega, by omega, by omega, by omega, by omega, by omega, by omega, by omega, HQ, by first | rfl | trivial⟩
                          case measure => simp [intOf]; omega
                · obtain rfl : i = jc' := by omega
                  have cy := (HC.out _ hbw.out i y HY.out).1
                  rw [HY8.out] at cy
                  have HEE := Lib.hid (HEN.out r v a f hcn.out)
                  clear hcn
                  go_upto_region 31 with (go_at_call 14; refine HND.out.mono ?_; rintro e w5 ⟨he, hb5⟩; have he' := HEE.out e he; subst he'; have HB5 := Lib.hid (hbw.out.trans (hb5.mono hbw.out.size)); clear he hb5)
                  go_wp2_with fail
                  go_roundw
                  case rel => exact ⟨k + 1, by go_num, by omega, HB5⟩
                  case measure => simp [intOf]; omega
            · have h7' : (x.op != 7) = true := bne_iff_ne.2 h7
              clear hx h7
              go_wp2_with fail
              go_roundw
              case rel => exact ⟨k + 1, by go_num, by omega, hbw⟩
              case measure => simp [intOf]; omega
          · obtain rfl : k = n := by omega
            go_wp2_with (go_at_call 7; refine (l_awake _ (HE3.out.below hbw.out)).mono ?_; rintro e w4 ⟨rfl, hb4⟩; have HB4 := Lib.hid ((HB3.out.trans (hbw.out.mono HB3.out.size)).trans (hb4.mono (HB3.out.trans (hbw.out.mono HB3.out.size)).size)); clear hb4)
            go_ret
            exact ⟨rfl, Kept.of_below HB4.out⟩

/-! The heap that the program's own initialisers leave meets the row's condition. -/
theorem door_met (os : Os) (args : Array Value) : laidMetH Tryd.prog [("strongtx/isa.shapes", Rows.laid_strongtx_isa_shapes)] ((World.doorLaid Tryd.prog 400 os).forCall (fun _ _ => 0) ⟨#[], args, []⟩).memory :=
  laidMetH_of_parts3 (fuel := 8) (laidMet_of_run' 8 (by kernel_rfl) (by kernel_rfl)) (by kernel_rfl) (by kernel_rfl)

/-! The row's step. -/
set_option maxRecDepth 100000 in
theorem lifted (os : Os) (started : os.Started) (H : Type) (enc : TypeId × Value → H) :
    ReturnsInHanded {} Tryd.checked os 5 .any (fun w args => (Rows.programStraightSpec.pre enc Tryd.prog Tryd.f5 Rows.programStraightRow.domain false w args ∧ laidMetH Tryd.prog [("strongtx/isa.shapes", Rows.laid_strongtx_isa_shapes)] w) ∧ sizedMet enc Tryd.prog Tryd.f5 (OpenSpec.ofChange Rows.programStraightSpec) false w args)
      (Rows.programStraightSpec.post enc Tryd.prog Tryd.f5 false true false false) := by
  refine returnsInHanded_of_change_and (C := Tryd.checked) (X := fun w _ => laidMetH Tryd.prog [("strongtx/isa.shapes", Rows.laid_strongtx_isa_shapes)] w) (fun _ _ _ hh h => h.of_heap hh) own started (by kernel_rfl) Tryd.func5
    (ChangeSpec.witness_shaped (enc := enc) (C := Tryd.checked) (os := os) (X := fun w _ => laidMetH Tryd.prog [("strongtx/isa.shapes", Rows.laid_strongtx_isa_shapes)] w) false (World.doorLaid Tryd.prog 400 os) #[.slice none 0 0] 8 rfl (World.shaped_of_RefB (by kernel_rfl) (by kernel_rfl)) (by kernel_rfl) (by kernel_rfl) (by kernel_rfl) (door_met os _)) ?_
  intro W base args ds gs before hval0 hW hcnd _ hL _
  have hval : ∀ (j : Nat) t v, Tryd.f5.params[j]? = some t → args[j]? = some v → Value.okWide Tryd.prog W .any base t v := hval0
  have hW' := hW
  obtain ⟨p, q, hA0, hV, rfl, hfz, hnd⟩ := hW
  have hA : DataW.TrodAll enc Tryd.prog W 0 (fun _ => true) true Tryd.f5.params.toList args.toList ds p := hA0
  rw [Tryd.params5] at hA hval
  obtain ⟨v0, vs0, d0, ds0, p0, q0, hargs, rfl, rfl, h0, r0⟩ := trodAll_cons hA
  obtain ⟨rfl, rfl, rfl⟩ := trodAll_nil r0
  obtain rfl : args = #[v0] := by cases args; simp_all
  obtain ⟨rfl, rfl⟩ := trodVars_none hV
  have hk : ∀ W', Kept W W' → Rows.programStraightSpec.post enc Tryd.prog Tryd.f5 false true false false W #[v0] (.bool true) W' := fun W' hb =>
    post_law laidOut readable rfl Tryd.underlying4 rfl hW' rfl hb
  clear hA0 hval0 hA hW'
  obtain ⟨A0, n0, c0, z0, rfl, l0, m0, s0⟩ := open_slice Tryd.underlying22 Tryd.underlying3 cells3 (hval 0 22 v0 rfl rfl) h0
  refine (walk W hL A0 n0 c0 z0 l0 m0 s0).mono fun e W' ⟨he, hg⟩ => ?_
  subst he
  exact ⟨_, rfl, hk W' hg⟩

theorem over : Rows.programStraightRow.holds Tryd.pinned (OpenSpec.ofChange Rows.programStraightSpec) :=
  OpenClaim.holds_of_wide 5 Tryd.f5 rfl rfl rfl rfl rfl rfl rfl ⟨rfl, rfl, rfl, rfl, rfl⟩ rfl rfl rfl rfl rfl (by kernel_rfl) Tryd.func5 (by kernel_rfl)
    (of_decide_eq_true (by kernel_rfl)) (by unfold Func.isWrapper; first | (rw [if_pos (by decide +kernel)]; kernel_rfl) | (rw [if_neg (by decide +kernel)]; exact ⟨rfl, rfl⟩))
    (fun os started H enc _ => lifted os started H enc)

/-- The row. -/
theorem row : Rows.ProgramStraightSaid :=
  over

/-- The statement: the tied card. -/
theorem proved : Rows.ProgramStraightCardSaid :=
  Claim7.holds_tied_plain_at .later [] [.data] true (true, "38f59f8f3060a691bd598a7acc0f19158161a3a80ad834a34fe1782d22c2d8e1") false
    row (fun _ h => by cases h) (by kernel_rfl) (fun _ h => by cases h) programStraight_row_tie rfl ⟨rfl, rfl⟩ (by kernel_rfl) rfl
    (fun f fn hf hfn => by
      obtain rfl : f = 5 := Option.some.inj ((show Tryd.prog.funcNamed "strongtx/strongtxlaw06.ProgramStraight" = some 5 by kernel_rfl).symm.trans hf) |>.symm
      obtain rfl : fn = Tryd.f5 := (Option.some.inj (Tryd.func5.symm.trans hfn)).symm
      exact ⟨by kernel_rfl, fun j t ht => by
        rw [Tryd.params5] at ht
        have hm : t ∈ [22] := by simpa using Array.mem_of_getElem? ht
        have hall : ([22].all fun u => !Tryd.prog.wantsStandIn u) = true := by kernel_rfl
        exact (show Tryd.prog.wantsStandIn t = false by simpa using List.all_eq_true.1 hall t hm)⟩)
    (by kernel_rfl)
#print axioms proved
end Go.Proofs.YthnhmclnfgkppaaDoor.programStraight
