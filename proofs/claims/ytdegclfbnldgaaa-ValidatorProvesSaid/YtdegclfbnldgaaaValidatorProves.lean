/-
  Proved: if versions only grow, a validation that succeeds under any changes proves that no orec of the list was newer than the snapshot when it began. No condition.
-/
import Derived.Test.YtdegclfbnldgaaaRows
import Derived.WalkKit
import Derived.ProofKit
import Derived.OpenShut
import Derived.Test.YtdegclfbnldgaaaFrame
import Derived.Test.YtdegclfbnldgaaaVaL
import Derived.Test.YtdegclfbnldgaaaLayO
import Derived.Deep.RegionHeld3
import Derived.Deep.RegionLaw
import Derived.Deep.Cut
import Derived.Deep.DeepCutAuto
import Derived.Deep.CutBlock
import Derived.BigQuiet
import Derived.Deep.QuietTactic
namespace Go.Proofs.Ytdegclfbnldgaaa.validatorProves
open Go.ChangeShapes Go.WideShapes Go.ChangeAt Go.RowKit
open LawFrame
open Go.ChangeMaps (open_string)
set_option linter.unusedVariables false

theorem own : ownKnob Try.prog.godebug = none := by kernel_rfl
theorem laidOut : laidOutB Try.prog = true := by kernel_rfl
theorem cells3 : Try.prog.cellsOf 3 = 1 := by kernel_rfl

open LawFrame PlainT BlkW LayS LayA LayH LayK LayP CelS CelM CelP CelV CelN CelO CelF LabD LabR LabP LabS LabX LabN CelLo WordC RsA ObjA ClnA VaA VaB VaL
set_option maxHeartbeats 20000000
set_option maxRecDepth 400000

theorem readable : ∀ t ∈ Try.f7.params.toList, Try.prog.readableRec t = true ∧ t < Try.prog.types.size := by
  have h : (Try.f7.params.toList.all fun t => Try.prog.readableRec t && decide (t < Try.prog.types.size)) = true := by kernel_rfl
  intro t ht
  have := List.all_eq_true.1 h t ht
  simpa using this

/-! The walk. -/
theorem walk (w : World) (A0 : Option Addr) (n0 c0 : Nat) (z0 : List Int) (l0 : n0 ≤ c0) (m0 : c0 ≤ maxLen) (s0 : Ints .i64 w A0 n0 z0) (a1 : Int) (w1 : (Lit.int .i64 a1).wf = true) (A2 : Option Addr) (n2 c2 : Nat) (z2 : List Int) (l2 : n2 ≤ c2) (m2 : c2 ≤ maxLen) (s2 : Ints .i64 w A2 n2 z2) (A3 : Option Addr) (n3 c3 : Nat) (z3 : List Int) (l3 : n3 ≤ c3) (m3 : c3 ≤ maxLen) (s3 : Ints .i64 w A3 n3 z3) :
    Calls Try.prog 7 #[.slice A0 n0 c0, .int .i64 a1, .slice A2 n2 c2, .slice A3 n3 c3] w fun e w' => e = .returned (.bool true) ∧ Kept w w' := by
  obtain ⟨W, hW12, hW5, hWc⟩ := l_orecs s0 c0
  have HOK : Hid (LOk W) := Lib.hid ⟨hW12, hW5⟩
  have HWc := Lib.hid hWc
  have HZ2 := Lib.hid s2
  have HZ3 := Lib.hid s3
  clear hW5 hWc s0 l0 m0 s2 l2 m2 s3 l3 m3
  clear w1
  go_enter Try.func7, Try.ntmps7
  go_upto_region 2 with (first
    | (go_at_call 30; (with_reducible refine (l_config16 _).mono ?_); rintro e wa ⟨rfl, hb1⟩)
    | (go_at_call 29; (with_reducible refine (start_six 2 2 rfl (by decide) (by decide) _).mono ?_); rintro e w2 ⟨A, lo, hi, b, rb, rfl, hst⟩))
  have L0 : Hid (Lo wa lo hi b rb q6 A A [] w2) := Lib.hid (Lo.begunN hst)
  have HV : Hid (VB 260 (A 2)) := Lib.hid (by rw [(begun_six hst).1]; exact vb_zero (by decide))
  have HB1 := Lib.hid hb1
  clear hst hb1
  have L1 := Lib.hid (L0.out.new TP #[.pointer (some ⟨b, 0, none⟩), .pointer (some ⟨rb, 0, none⟩)])
  obtain ⟨gp, hn⟩ : ∃ gp, w2.heap.size = gp := ⟨_, rfl⟩
  rw [hn] at L1
  first | rw [hn] | skip
  clear hn
  obtain ⟨W1, hW⟩ : ∃ W', w2.alloc (.cells #[.pointer (some ⟨b, 0, none⟩), .pointer (some ⟨rb, 0, none⟩)] TP) = W' := ⟨_, rfl⟩
  rw [hW] at L1
  first | rw [hW] | skip
  clear hW
  have L1 : Hid (Lo wa lo hi b rb q6 A A [bx gp TP #[.pointer (some ⟨b, 0, none⟩), .pointer (some ⟨rb, 0, none⟩)]] W1) := L1
  clear L0
  go_wp2_with fail
  go_loopw [11] (fun iv wr => ∃ (p : Nat) (A2 : Int → List Int), p ≤ 6 ∧ iv = .int .i64 p ∧ Hid (VB 260 (A2 2)) ∧ Hid (Lo wa lo hi b rb q6 A2 A2 [bx gp TP #[.pointer (some ⟨b, 0, none⟩), .pointer (some ⟨rb, 0, none⟩)]] wr)) (fun iv _ => 6 - (intOf iv).toNat)
  case atStart => exact ⟨0, A, by omega, rfl, HV, L1⟩
  case round =>
    clear L1 HV
    obtain ⟨p, A2, hp6, rfl, HV, L0⟩ := hrel
    by_cases hp : p < 6
    · have hpI : (p : Int) < 6 := by omega
      have hkk : ∀ (W : World) (A : Int → List Int), Lo wa lo hi b rb q6 A A [bx gp TP #[.pointer (some ⟨b, 0, none⟩), .pointer (some ⟨rb, 0, none⟩)]] W → (fun W : World => W.cell? ⟨gp, 0, none⟩ = some (.pointer (some ⟨b, 0, none⟩)) ∧ W.cell? ⟨gp, 1, none⟩ = some (.pointer (some ⟨rb, 0, none⟩))) W := fun W A h => ⟨h.c 0 0 rfl rfl, h.c 0 1 rfl rfl⟩
      have hs0 : (fun W : World => W.cell? ⟨gp, 0, none⟩ = some (.pointer (some ⟨b, 0, none⟩)) ∧ W.cell? ⟨gp, 1, none⟩ = some (.pointer (some ⟨rb, 0, none⟩))) wr.drew := hkk _ _ L0.out.drew
      have hat := k_at c2 HZ2.out (below_trans2 HB1.out L0.out.drew.old) p
      have hse := fun x => lo_set L0.out.drew 2 (by decide) p (by rw [HV.out.1]; exact hp) x
      go_upto_region 7 with (fail)
      go_region_held3 (fun W : World => W.cell? ⟨gp, 0, none⟩ = some (.pointer (some ⟨b, 0, none⟩)) ∧ W.cell? ⟨gp, 1, none⟩ = some (.pointer (some ⟨rb, 0, none⟩))) (first | (with_reducible exact hs0) | (with_reducible assumption)) (first
          | (go_at_call 20; (with_reducible refine hat.mono ?_); rintro e w3 ⟨v, rfl, rfl⟩)
          | (go_at_call 31; (with_reducible refine (l_word_ex _ _).mono ?_); rintro e w4 ⟨x, x0, x1, rfl, rfl⟩)
          | (go_at_call 18; (with_reducible refine (hse _).mono ?_); rintro e w6 ⟨rfl, hL⟩; have hk1 := hkk _ _ hL))
      have L1 := Lib.hid hL
      have HV2 : Hid (VB 260 (upd A2 2 p x 2)) := Lib.hid (by rw [upd2]; exact vb_set HV.out hp x0 x1)
      clear hs0 hat hse hkk hk1 hL L0
      go_wp2_with fail
      go_roundw
      case rel => exact ⟨p + 1, _, by omega, by go_num, HV2, L1⟩
      case measure => (first | (simp [intOf]; omega) | simp [intOf])
    · have hge : (6 : Int) ≤ p := by omega
      clear hp hp6
      obtain ⟨v, hv⟩ : ∃ v, pl a1 6 = v := ⟨_, rfl⟩
      have hpl := k_place a1 6 v (by decide) (by decide) hv
      clear hv
      have hB := below_trans2 HB1.out L0.out.old
      have hwa1 := HWc.out wr hB
      go_upto_region 10 with (first
      | (go_at_call 11; (with_reducible refine (hpl _).mono ?_); rintro e wp ⟨rfl, rfl⟩)
      | (go_at_call 33; (with_reducible refine hwa1.mono ?_); rintro e w3 ⟨pw, cw, rfl, how, hbw⟩))
      have L1 : Hid (Lo wa lo hi b rb q6 A2 A2 [bx gp TP #[.pointer (some ⟨b, 0, none⟩), .pointer (some ⟨rb, 0, none⟩)], rd .i64 (.slice pw W.length cw) W] w3) := Lib.hid (L0.out.add hbw (o := rd .i64 (.slice pw W.length cw) W) (rdr_own how) fun x hx => (World.ownsRow.lt how x (blk_mem hx)).1)
      clear hpl hwa1 how hbw hB L0 hge
      go_wp2_with fail
      go_loopw [14, 15] (fun fv iv wr => ∃ (j : Nat) (F : Bool), j ≤ W.length ∧ iv = .int .i64 j ∧ fv = .bool F ∧ Hid ((∀ t, t < j → cX W t (A2 2) / 64 ≤ v) → F = true) ∧ Hid (Lo wa lo hi b rb q6 A2 A2 [bx gp TP #[.pointer (some ⟨b, 0, none⟩), .pointer (some ⟨rb, 0, none⟩)], rd .i64 (.slice pw W.length cw) W] wr)) (fun _ iv _ => W.length - (intOf iv).toNat)
      case atStart => exact ⟨0, true, by omega, rfl, rfl, Lib.hid (fun _ => rfl), L1⟩
      case round =>
        clear L1
        obtain ⟨m, F, hml0, rfl, rfl, HFi, L0⟩ := hrel
        by_cases hml : m < W.length
        · have hmlI : (m : Int) < W.length := by omega
          have hm0 : (0 : Int) ≤ m := by omega
          cases F with
          | false =>
            have HF2 : Hid ((∀ t, t < m + 1 → cX W t (A2 2) / 64 ≤ v) → false = true) := Lib.hid fun h => HFi.out fun t ht => h t (by omega)
            go_upto_region 14 with (fail)
            go_quiet (fail)
            go_wp2_with fail
            go_roundw
            case rel => exact ⟨m + 1, false, by omega, by go_num, rfl, HF2, Lib.hid (L0.out.drewN _)⟩
            case measure => (first | (simp [intOf]; omega) | simp [intOf])
          | true =>
            obtain ⟨hat, ho6⟩ := HOK.out.at_ hml
            obtain ⟨o, ho⟩ : ∃ o, cO W m = o := ⟨_, rfl⟩
            rw [ho] at hat ho6
            have hoI : (o : Int) < 6 := by omega
            have ho0 : (0 : Int) ≤ o := by omega
            obtain ⟨gl, ol, c, hsl, _, _, hcl⟩ := RdR.cell (L0.out.is 1 _ rfl) (by omega)
            injection hsl with hp1 _ hp3
            subst hp1 hp3
            have q0 := hcl m _ hat
            obtain ⟨gr, cr, q1, hrow⟩ := orec_row L0.out (by rw [HV.out.1]; decide)
            have q2 := hrow o (by rw [HV.out.1]; exact ho6)
            rw [HV.out.1] at q1
            obtain ⟨x, hx⟩ : ∃ x, (A2 2).getD o 0 = x := ⟨_, rfl⟩
            have hxb := HV.out.2 o
            rw [hx] at q2 hxb
            obtain ⟨x0, x1⟩ := hxb
            have hX : Hid (cX W m (A2 2) = x) := Lib.hid (by unfold cX; rw [ho]; exact hx)
            obtain ⟨y, hy⟩ : ∃ y, x / 64 = y := ⟨_, rfl⟩
            have hve := same_of (r_version x x0 (by omega))
            simp only [hy] at hve
            have HY := Lib.hid hy
            have q3 := L0.out.c 0 1 rfl rfl
            obtain ⟨G, hG⟩ : ∃ G, decide (y ≤ v) = G := ⟨_, rfl⟩
            have HF2 : Hid ((∀ t, t < m + 1 → cX W t (A2 2) / 64 ≤ v) → G = true) := Lib.hid fun h => by rw [← hG, ← HY.out, ← hX.out]; exact decide_eq_true (h m (by omega))
            clear hcl hrow ho hx hy hat x0 x1 hX HY
            go_upto_region 14 with (fail)
            go_quiet (first | (go_at_call 41; exact Calls.quiet_of_same (hve _)))
            clear q0 q1 q2 q3 hve
            go_wp2_with fail
            go_roundw
            case rel => exact ⟨m + 1, G, by omega, by go_num, rfl, HF2, Lib.hid (L0.out.drewN _)⟩
            case measure => (first | (simp [intOf]; omega) | simp [intOf])
        · obtain rfl : m = W.length := by omega
          clear hml hml0
          have hnew := x_new L0.out (.slice pw W.length cw) v W (L0.out.is 1 _ rfl) hW12
          go_upto_region 18 with (go_at_call 32; (with_reducible refine hnew.mono ?_); rintro e w4 ⟨ga, va, rfl, hL4⟩)
          have L1 : Hid (Lo wa lo hi b rb q6 A2 A2 [bx gp TP #[.pointer (some ⟨b, 0, none⟩), .pointer (some ⟨rb, 0, none⟩)], rd .i64 (.slice pw W.length cw) W, ckM ga v va false (W.drop 0)] w4) := Lib.hid hL4
          clear hL4 hnew L0
          go_wp2_with fail
          obtain ⟨V0, hV0⟩ : ∃ V0, A2 2 = V0 := ⟨_, rfl⟩
          rw [hV0] at HFi
          have HGr : Hid (Gr V0 (A2 2)) := Lib.hid (by rw [hV0]; exact fun p => Int.le_refl _)
          clear hV0
          go_loopw [17] (fun iv wr => ∃ (i k : Nat) (f : Bool) (va : Value) (A3 : Int → List Int), i ≤ 14 ∧ iv = .int .i64 i ∧ Hid (Pr f W k i) ∧ Hid (VB (320 + 64 * i) (A3 2)) ∧ Hid (Gr V0 (A3 2) ∧ FnOk v f W V0 k) ∧ Hid (Lo wa lo hi b rb q6 A3 A3 [bx gp TP #[.pointer (some ⟨b, 0, none⟩), .pointer (some ⟨rb, 0, none⟩)], rd .i64 (.slice pw W.length cw) W, ckM ga v va f (W.drop k)] wr)) (fun iv _ => 14 - (intOf iv).toNat)
          case atStart => exact ⟨0, 0, false, va, A2, by omega, rfl, Lib.hid ⟨by omega, fun _ => by omega⟩, Lib.hid (vb_le HV.out (by decide)), Lib.hid ⟨HGr.out, fun _ t ht => absurd ht (by omega)⟩, L1⟩
          case round =>
            clear L1 HV HGr
            obtain ⟨i, k, f, va, A3, hi14, rfl, HPr, HV, HG, L0⟩ := hrel
            have hkl := HPr.out.1
            by_cases hlt : i < 14
            · have hltI : (i : Int) < 14 := by omega
              obtain ⟨k1, k2, k3, k4, k5, d, hac⟩ := acS_ex f W k (A3 2)
              obtain ⟨f', hf'⟩ : ∃ f', nF v f W k (A3 2) = f' := ⟨_, rfl⟩
              obtain ⟨k', hk'⟩ : ∃ k', nK f W k = k' := ⟨_, rfl⟩
              have HPr2 : Hid (Pr f' W k' (i + 1)) := Lib.hid (by rw [← hf', ← hk']; exact pr_next HPr.out)
              have HF2 : Hid (FnOk v f' W V0 k') := Lib.hid (by rw [← hf', ← hk']; exact fn_next HG.out.2 HG.out.1)
              have hs1 := x_step (i := 2) L0.out rfl HOK.out hkl (vb_ok HV.out (by omega)) (Lib.hid hac) (Lib.hid hf') (Lib.hid hk')
              clear hac hf' hk'
              have q0 := L0.out.c 0 0 rfl rfl
              go_upto_region 22 with (go_at_call 38; (with_reducible refine hs1.mono ?_); rintro e w5 ⟨rfl, vx, hL5⟩)
              have L1 : Hid (Lo wa lo hi b rb q6 A3 A3 [bx gp TP #[.pointer (some ⟨b, 0, none⟩), .pointer (some ⟨rb, 0, none⟩)], rd .i64 (.slice pw W.length cw) W, ckM ga v vx f' (W.drop k')] w5) := Lib.hid hL5
              clear hs1 hL5 q0 L0 hkl HPr
              have hat := k_at c3 HZ3.out (below_trans2 HB1.out L1.out.old) i
              go_upto_region 23 with (first
          | (go_at_call 20; (with_reducible refine hat.mono ?_); rintro e w3 ⟨y, rfl, rfl⟩)
          | (go_at_call 11; (with_reducible refine (k_place_ex _ _ (by decide) (by decide) _).mono ?_); rintro e w4 ⟨u, u0, u1, rfl, rfl⟩))
              obtain ⟨o, rfl⟩ : ∃ o : Nat, u = o := ⟨u.toNat, by omega⟩
              have ho6 : o < 6 := by omega
              have hoI : (o : Int) < 6 := by omega
              have ho0 : (0 : Int) ≤ o := by omega
              clear u0 u1 hat
              obtain ⟨gr, cr, q1, hrow⟩ := orec_row L1.out (by rw [HV.out.1]; decide)
              have q2 := hrow o (by rw [HV.out.1]; exact ho6)
              rw [HV.out.1] at q1
              obtain ⟨x, hx⟩ : ∃ x, (A3 2).getD o 0 = x := ⟨_, rfl⟩
              have hxb := HV.out.2 o
              rw [hx] at q2 hxb
              obtain ⟨x0, x1⟩ := hxb
              obtain ⟨z, hz⟩ : ∃ z, x / 64 = z := ⟨_, rfl⟩
              have hve := r_version x x0 (by omega)
              simp only [hz] at hve
              have hzb : 0 ≤ z ∧ z ≤ 5 + i := by omega
              obtain ⟨z0, z1⟩ := hzb
              have hzw : wrap64 (z + 1) = z + 1 := IntWalk.wrap64_in _ (by omega)
              have hfr := r_free (z + 1) (by omega) (by omega)
              obtain ⟨nw, hnw⟩ : ∃ nw, (z + 1) * 64 = nw := ⟨_, rfl⟩
              simp only [hnw] at hfr
              have HX : Hid (nw = ((A3 2).getD o 0 / 64 + 1) * 64 ∧ 0 ≤ nw ∧ nw ≤ 320 + 64 * ((i + 1 : Nat) : Int)) := Lib.hid ⟨by rw [hx, hz]; exact hnw.symm, by omega, by omega⟩
              have q3 := L1.out.c 0 1 rfl rfl
              have q4 := L1.out.c 0 0 rfl rfl
              clear hx hz hnw hrow x0 x1 z1
              go_upto_region 24 with (first
          | (go_at_call 41; (with_reducible refine (hve _).mono ?_); rintro e w5 ⟨rfl, rfl⟩)
          | (go_at_call 42; (with_reducible refine (hfr _).mono ?_); rintro e w6 ⟨rfl, rfl⟩))
              clear hve hfr hzw q1 q2 z0
              by_cases hn : i < n3
              · have hnI : (i : Int) < n3 := by omega
                have hse := lo_set L1.out 2 (by decide) o (by rw [HV.out.1]; exact ho6) nw
                have HV2 : Hid (VB (320 + 64 * ((i + 1 : Nat) : Int)) (upd A3 2 o nw 2)) := Lib.hid (by rw [upd2]; exact vb_set (vb_le HV.out (by omega)) ho6 HX.out.2.1 HX.out.2.2)
                have HG2 : Hid (Gr V0 (upd A3 2 o nw 2) ∧ FnOk v f' W V0 k') := Lib.hid ⟨by rw [upd2, HX.out.1]; exact gr_set HG.out.1 (by rw [HV.out.1]; exact ho6), HF2.out⟩
                go_wp2_with (go_at_call 18; (with_reducible refine hse.mono ?_); rintro e w6 ⟨rfl, hL⟩; have L2 := Lib.hid hL; clear hL)
                go_roundw
                case rel => exact ⟨i + 1, k', f', vx, _, by omega, by go_num, HPr2, HV2, HG2, L2⟩
                case measure => (first | (simp [intOf]; omega) | simp [intOf])
              · have hnI : (n3 : Int) ≤ i := by omega
                have HV2 : Hid (VB (320 + 64 * ((i + 1 : Nat) : Int)) (A3 2)) := Lib.hid (vb_le HV.out (by omega))
                have HG2 : Hid (Gr V0 (A3 2) ∧ FnOk v f' W V0 k') := Lib.hid ⟨HG.out.1, HF2.out⟩
                go_wp2_with fail
                go_roundw
                case rel => exact ⟨i + 1, k', f', vx, A3, by omega, by go_num, HPr2, HV2, HG2, L1⟩
                case measure => (first | (simp [intOf]; omega) | simp [intOf])
            · have hge2 : (14 : Int) ≤ i := by omega
              have hdn : dn f W k = true := pr_end HPr.out (by have := HOK.out.few; omega)
              have HFF : Hid (f = true ∨ F = true) := Lib.hid (by
                cases f with
                | true => exact .inl rfl
                | false =>
                  have e : k = W.length := by simpa [dn] using hdn
                  exact .inr (HFi.out fun t ht => HG.out.2 rfl t (by omega)))
              have hd1 := x_doneL (i := 2) L0.out rfl hkl (Lib.hid hdn)
              have hfa : ∀ w4, Lo wa lo hi b rb q6 A3 A3 [bx gp TP #[.pointer (some ⟨b, 0, none⟩), .pointer (some ⟨rb, 0, none⟩)], rd .i64 (.slice pw W.length cw) W, ckM ga v va f (W.drop k)] w4 → Calls _ _ _ _ _ := fun w4 h => x_failed (i := 2) h rfl
              clear hdn hlt hi14 hkl HFi
              cases f with
              | true =>
                go_wp2_with (first
          | (go_at_call 35; (with_reducible refine hd1.mono ?_); rintro e w4 ⟨rfl, hL4⟩; have hfa := hfa _ hL4)
          | (go_at_call 37; (with_reducible refine hfa.mono ?_); rintro e w5 ⟨rfl, rfl⟩)
          | (go_at_call 40; (with_reducible refine (l_awake _).mono ?_); rintro e wz ⟨rfl, hbz⟩))
                have HF := Lib.hid (below_trans2 HB1.out (below_trans2 hL4.old hbz))
                clear hd1 hfa hbz hL4 L0
                go_ret
                exact ⟨rfl, .of_below HF.out⟩
              | false =>
                obtain rfl : true = F := (HFF.out.resolve_left (by decide)).symm
                go_wp2_with (first
          | (go_at_call 35; (with_reducible refine hd1.mono ?_); rintro e w4 ⟨rfl, hL4⟩; have hfa := hfa _ hL4)
          | (go_at_call 37; (with_reducible refine hfa.mono ?_); rintro e w5 ⟨rfl, rfl⟩)
          | (go_at_call 40; (with_reducible refine (l_awake _).mono ?_); rintro e wz ⟨rfl, hbz⟩))
                have HF := Lib.hid (below_trans2 HB1.out (below_trans2 hL4.old hbz))
                clear hd1 hfa hbz hL4 L0
                go_ret
                exact ⟨rfl, .of_below HF.out⟩

/-! The row's step. -/
set_option maxRecDepth 100000 in
theorem lifted (os : Os) (started : os.Started) (H : Type) (enc : TypeId × Value → H) :
    ReturnsInHanded {} Try.checked os 7 .any (Rows.validatorProvesSpec.pre6 enc Try.prog Try.f7 Rows.validatorProvesRow.domain false) (Rows.validatorProvesSpec.post enc Try.prog Try.f7 false true false false) := by
  refine returnsInHanded_of_change (C := Try.checked) own started (by kernel_rfl) Try.func7
    (ChangeSpec.witness6 (enc := enc) (C := Try.checked) false ⟨#[], #[.slice none 0 0, .int .i64 0, .slice none 0 0, .slice none 0 0], []⟩ 8 (by kernel_rfl) (by kernel_rfl) (by kernel_rfl) (by kernel_rfl)) ?_
  intro W base args ds gs before hval0 hW hcnd _
  have hval : ∀ (j : Nat) t v, Try.f7.params[j]? = some t → args[j]? = some v → Value.okWide Try.prog W .any base t v := hval0
  have hW' := hW
  obtain ⟨p, q, hA0, hV, rfl, hfz, hnd⟩ := hW
  have hA : DataW.TrodAll enc Try.prog W 0 (fun _ => true) true Try.f7.params.toList args.toList ds p := hA0
  rw [Try.params7] at hA hval
  obtain ⟨v0, vs0, d0, ds0, p0, q0, hargs, rfl, rfl, h0, r0⟩ := trodAll_cons hA
  obtain ⟨v1, vs1, d1, ds1, p1, q1, rfl, rfl, rfl, h1, r1⟩ := trodAll_cons r0
  obtain ⟨v2, vs2, d2, ds2, p2, q2, rfl, rfl, rfl, h2, r2⟩ := trodAll_cons r1
  obtain ⟨v3, vs3, d3, ds3, p3, q3, rfl, rfl, rfl, h3, r3⟩ := trodAll_cons r2
  obtain ⟨rfl, rfl, rfl⟩ := trodAll_nil r3
  obtain rfl : args = #[v0, v1, v2, v3] := by cases args; simp_all
  obtain ⟨rfl, rfl⟩ := trodVars_none hV
  have hk : ∀ W', Kept W W' → Rows.validatorProvesSpec.post enc Try.prog Try.f7 false true false false W #[v0, v1, v2, v3] (.bool true) W' := fun W' hb =>
    post_law laidOut readable rfl Try.underlying4 rfl hW' rfl hb
  clear hA0 hval0 hA hW'
  obtain ⟨A0, n0, c0, z0, rfl, l0, m0, s0⟩ := open_slice Try.underlying47 Try.underlying3 cells3 (hval 0 47 v0 rfl rfl) h0
  obtain ⟨a1, rfl, rfl, rfl, w1⟩ := open_int Try.underlying3 (hval 1 3 v1 rfl rfl) h1
  obtain ⟨A2, n2, c2, z2, rfl, l2, m2, s2⟩ := open_slice Try.underlying47 Try.underlying3 cells3 (hval 2 47 v2 rfl rfl) h2
  obtain ⟨A3, n3, c3, z3, rfl, l3, m3, s3⟩ := open_slice Try.underlying47 Try.underlying3 cells3 (hval 3 47 v3 rfl rfl) h3
  refine (walk W A0 n0 c0 z0 l0 m0 s0 a1 w1 A2 n2 c2 z2 l2 m2 s2 A3 n3 c3 z3 l3 m3 s3).mono fun e W' ⟨he, hg⟩ => ?_
  subst he
  exact ⟨_, rfl, hk W' hg⟩

theorem over : Rows.validatorProvesRow.holds Try.pinned (OpenSpec.ofChange Rows.validatorProvesSpec) :=
  OpenClaim.holds_of_wide 7 Try.f7 rfl rfl rfl rfl rfl rfl rfl ⟨rfl, rfl, rfl, rfl, rfl⟩ rfl rfl rfl rfl rfl (by kernel_rfl) Try.func7 (by kernel_rfl)
    (of_decide_eq_true (by kernel_rfl)) (by unfold Func.isWrapper; first | (rw [if_pos (by decide +kernel)]; kernel_rfl) | (rw [if_neg (by decide +kernel)]; exact ⟨rfl, rfl⟩))
    (fun os started H enc _ => lifted os started H enc)

/-- The statement. -/
theorem proved : Rows.ValidatorProvesSaid :=
  over
#print axioms proved
end Go.Proofs.Ytdegclfbnldgaaa.validatorProves
