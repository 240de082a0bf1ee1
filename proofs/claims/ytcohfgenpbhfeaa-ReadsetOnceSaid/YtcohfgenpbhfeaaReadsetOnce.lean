/-
  Proved: a set has no element twice, at most as many as its capacity, and keeps the order of the first additions, whatever is added. No condition.
-/
import Derived.Test.YtcohfgenpbhfeaaRows
import Derived.WalkKit
import Derived.ProofKit
import Derived.OpenShut
import Derived.Test.YtcohfgenpbhfeaaFrame
import Derived.Test.YtcohfgenpbhfeaaRsC
import Derived.Deep.RegionHeld3
import Derived.Deep.RegionLaw
namespace Go.Proofs.Ytcohfgenpbhfeaa.readsetOnce
open Go.ChangeShapes Go.WideShapes Go.ChangeAt Go.RowKit
open LawFrame
open Go.ChangeMaps (open_string)
set_option linter.unusedVariables false

theorem own : ownKnob Try.prog.godebug = none := by kernel_rfl
theorem laidOut : laidOutB Try.prog = true := by kernel_rfl
theorem cells3 : Try.prog.cellsOf 3 = 1 := by kernel_rfl

open PlainT BlkW CelS CelM CelV CelN LabD FreV FreI RsA RsB RsC
set_option maxHeartbeats 2000000
set_option maxRecDepth 100000

theorem readable : ∀ t ∈ Try.f4.params.toList, Try.prog.readableRec t = true ∧ t < Try.prog.types.size := by
  have h : (Try.f4.params.toList.all fun t => Try.prog.readableRec t && decide (t < Try.prog.types.size)) = true := by kernel_rfl
  intro t ht
  have := List.all_eq_true.1 h t ht
  simpa using this

/-! The walk. -/
theorem walk (w : World) (a0 : Int) (w0 : (Lit.int .i64 a0).wf = true) (A1 : Option Addr) (n1 c1 : Nat) (z1 : List Int) (l1 : n1 ≤ c1) (m1 : c1 ≤ maxLen) (s1 : Ints .i64 w A1 n1 z1) :
    Calls Try.prog 4 #[.int .i64 a0, .slice A1 n1 c1] w fun e w' => e = .returned (.bool true) ∧ Kept w w' := by
  have HZ := Lib.hid s1
  clear s1
  go_enter Try.func4, Try.ntmps4
  by_cases hbig : (60 : Int) < n1
  · go_wp2_with fail
    refine (RsC.l_awake _).mono ?_
    rintro e w3 ⟨rfl, hb1⟩
    have HB1 := Lib.hid hb1
    clear hb1
    go_wp2
    go_ret
    exact ⟨rfl, .of_below HB1.out⟩
  · have hn : (n1 : Int) ≤ 60 := by omega
    clear hbig
    obtain ⟨u, hu⟩ : ∃ u, pl a0 32 = u := ⟨_, rfl⟩
    have hin := pl_in a0 32 (by decide) (by decide)
    rw [hu] at hin
    have hpl := k_place a0 32 u (by decide) (by decide) hu
    obtain ⟨q, hq⟩ : ∃ q, 1 + u = q := ⟨_, rfl⟩
    have q0 : 1 ≤ q := by omega
    have q32 : q ≤ 32 := by omega
    have hnw := a_new w q q (by omega)
    clear hu
    go_upto_region 7 with (first | (go_at_call 10; refine (hpl _).mono ?_; rintro e w1 ⟨rfl, rfl⟩) | (go_at_call 8; refine hnw.mono ?_; rintro e w2 ⟨rfl, rfl⟩))
    have hS0 := set_new w TS w.heap.size q (by decide) (Nat.le_refl _) (by omega) q32
    have hB0 := below_new w (.cells #[.int .i64 q, .slice none 0 0] TS)
    obtain ⟨W0, hW⟩ : ∃ W', w.alloc (.cells #[.int .i64 q, .slice none 0 0] TS) = W' := ⟨_, rfl⟩
    rw [hW] at hS0 hB0
    first | rw [hW] | skip
    clear hW hnw hpl hq
    have HB0 := Lib.hid hB0
    have HS0 := Lib.hid hS0
    clear hB0 hS0
    go_wp2_with fail
    go_loopw [7, 8] (fun uv kv wr => ∃ (k : Nat) (v u : Value) (xs : List Int), k ≤ n1 ∧ kv = .int .i64 k ∧ uv = u ∧ SetIs wr w.heap.size w.heap.size TS q v xs ∧ OwnI wr w.heap.size u xs ∧ Dis v u ∧ Below w.heap.size w wr ∧ (∃ A c, u = .slice A xs.length c)) (fun _ kv _ => n1 - (intOf kv).toNat)
    case atStart => exact ⟨0, _, _, [], by omega, rfl, rfl, HS0.out, World.ownsRow_nil _ _ _ _, fun y h => by simp [Value.ownBlock] at h, HB0.out, ⟨_, _, rfl⟩⟩
    case round =>
      clear HS0 HB0
      obtain ⟨k, v, _, xs, hk, rfl, rfl, hs, ho, hd, hb, ⟨A, c, rfl⟩⟩ := hrel
      have HS := Lib.hid hs
      have HO := Lib.hid ho
      have HD := Lib.hid hd
      have HB := Lib.hid hb
      have hz := hb.size
      have hl := hs.len
      clear hs ho hd hb
      by_cases hlt : k < n1
      · have hltI : (k : Int) < n1 := by omega
        obtain ⟨tb, toff, tx, rfl, htb, htc⟩ := iat HZ.out HB.out hlt
        obtain ⟨t, ht⟩ : ∃ t, pl tx 40 = t := ⟨_, rfl⟩
        have hpl := k_place tx 40 t (by decide) (by decide) ht
        have hin1 := k_in wr _ xs t (rdi_own HO.out) (by omega)
        by_cases hmem : t ∈ xs
        · have hc := a_add_to HS.out hz t true xs (by unfold said; rw [decide_eq_true hmem]; rfl) (by unfold adds; rw [if_pos hmem])
          rw [decide_eq_true hmem] at hin1
          have HM := Lib.hid (decide_eq_true hmem)
          clear hmem ht
          go_wp2_with (first
            | (go_at_call 10; refine (hpl _).mono ?_; rintro e w1 ⟨rfl, rfl⟩)
            | (go_at_call 17; (with_reducible refine hin1.mono ?_); rintro e w2 ⟨rfl, rfl⟩)
            | (go_at_call 11; (with_reducible refine hc.mono ?_); rintro e w3 ⟨rfl, v1, hS1, hF1, hob⟩; have hO1 := beside HS.out HO.out HD.out hF1; have hin2 := k_in w3 _ xs t (rdi_own hO1) (by omega); rw [HM.out] at hin2)
            | (go_at_call 17; (with_reducible refine hin2.mono ?_); rintro e w4 ⟨rfl, rfl⟩))
          have HS1 := Lib.hid hS1
          have HO1 := Lib.hid hO1
          have HB1 := Lib.hid (HB.out.trans (HS.out.step hz hF1))
          have HD1 := Lib.hid (HD.out.left hob (own_lt HO.out))
          clear hS1 hO1 hF1 hin1 hin2 hc HS HO HB HD
          go_roundw
          case rel => exact ⟨k + 1, v1, _, xs, by omega, by go_num, rfl, HS1.out, HO1.out, HD1.out, HB1.out, ⟨_, _, rfl⟩⟩
          case measure => simp [intOf]; omega
        · by_cases hfull : (xs.length : Int) < q
          · have hc := a_add_to HS.out hz t true (xs ++ [t]) (by unfold said; rw [decide_eq_true hfull, Bool.or_true]) (by unfold adds; rw [if_neg hmem, if_pos hfull])
            rw [decide_eq_false hmem] at hin1
            have HM := Lib.hid (decide_eq_false hmem)
            clear hmem ht
            go_upto_region 16 with (first
            | (go_at_call 10; refine (hpl _).mono ?_; rintro e w1 ⟨rfl, rfl⟩)
            | (go_at_call 17; (with_reducible refine hin1.mono ?_); rintro e w2 ⟨rfl, rfl⟩)
            | (go_at_call 11; (with_reducible refine hc.mono ?_); rintro e w3 ⟨rfl, v1, hS1, hF1, hob⟩; have hO1 := beside HS.out HO.out HD.out hF1; have hin2 := k_in w3 _ xs t (rdi_own hO1) (by omega); rw [HM.out] at hin2)
            | (go_at_call 17; (with_reducible refine hin2.mono ?_); rintro e w4 ⟨rfl, rfl⟩))
            have hz2 := (HB.out.trans (HS.out.step hz hF1)).size
            obtain ⟨A2, c2, w5, hrun, hO2, hB2, hfr, hob2⟩ := push_i hz2 hO1 (by omega) t
            have HD1 := HD.out.left hob (own_lt HO.out)
            have HS2 := Lib.hid (set_beside hS1 hO1 HD1 hB2.os hB2.tape hB2.output (hB2.size) hfr)
            have HO2 := Lib.hid hO2
            have HD2 := Lib.hid (HD1.symm.left hob2 (own_lt hS1.row)).symm
            have HB2 := Lib.hid ((HB.out.trans (HS.out.step hz hF1)).trans hB2)
            clear hS1 hO1 hF1 hin1 hin2 hc HS HO HB HD HD1 hO2 hB2 hfr hob2
            go_wp2_with (at_builtin; refine wpList_append_run rfl _ _ _ rfl hrun (by rfl) (by rfl) ?_)
            go_roundw
            case rel => exact ⟨k + 1, v1, _, xs ++ [t], by omega, by go_num, rfl, HS2.out, HO2.out, HD2.out, HB2.out, ⟨_, _, by rw [List.length_append]; rfl⟩⟩
            case measure => simp [intOf]; omega
          · have hc := a_add_to HS.out hz t false xs (by unfold said; rw [decide_eq_false hfull, decide_eq_false hmem]; rfl) (by unfold adds; rw [if_neg hmem, if_neg hfull])
            rw [decide_eq_false hmem] at hin1
            clear hmem ht
            go_wp2_with (first
            | (go_at_call 10; refine (hpl _).mono ?_; rintro e w1 ⟨rfl, rfl⟩)
            | (go_at_call 17; (with_reducible refine hin1.mono ?_); rintro e w2 ⟨rfl, rfl⟩)
            | (go_at_call 11; (with_reducible refine hc.mono ?_); rintro e w3 ⟨rfl, v1, hS1, hF1, hob⟩; have hO1 := beside HS.out HO.out HD.out hF1))
            have HS1 := Lib.hid hS1
            have HO1 := Lib.hid hO1
            have HB1 := Lib.hid (HB.out.trans (HS.out.step hz hF1))
            have HD1 := Lib.hid (HD.out.left hob (own_lt HO.out))
            clear hS1 hO1 hF1 hin1 hc HS HO HB HD
            go_roundw
            case rel => exact ⟨k + 1, v1, _, xs, by omega, by go_num, rfl, HS1.out, HO1.out, HD1.out, HB1.out, ⟨_, _, rfl⟩⟩
            case measure => simp [intOf]; omega
      · have hli := a_list _ _ _ _ _ _ HS.out
        go_wp2_with (first
          | (go_at_call 15; refine hli.mono ?_; rintro e x3 ⟨y, rfl, hy, hO3, hBl⟩; have hS3 := HS.out.below hBl; have hO4 := own_fr (P := fun _ => False) HO.out (Fr.of_below hBl) (fun _ _ => id))
          | (go_at_call 14; refine (k_ints _ _ _ xs (rdi_own hO3) (rdi_own hO4) (by omega)).mono ?_; rintro e x4 ⟨rfl, nd, rfl⟩; have hle := a_len _ _ _ _ _ _ (hS3.drewN nd))
          | (go_at_call 13; refine hle.mono ?_; rintro e x5 ⟨rfl, rfl⟩)
          | (go_at_call 7; refine (RsC.l_awake _).mono ?_; rintro e w3 ⟨rfl, hb3⟩))
        go_ret
        exact ⟨rfl, .of_below (below_trans2 HB.out (below_trans2 hBl (below_trans2 (below_drewN (Below.refl _ _) _) hb3)))⟩

/-! The row's step. -/
set_option maxRecDepth 100000 in
theorem lifted (os : Os) (started : os.Started) (H : Type) (enc : TypeId × Value → H) :
    ReturnsInHanded {} Try.checked os 4 .any (Rows.readsetOnceSpec.pre6 enc Try.prog Try.f4 Rows.readsetOnceRow.domain false) (Rows.readsetOnceSpec.post enc Try.prog Try.f4 false true false false) := by
  refine returnsInHanded_of_change (C := Try.checked) own started (by kernel_rfl) Try.func4
    (ChangeSpec.witness6 (enc := enc) (C := Try.checked) false ⟨#[], #[.int .i64 0, .slice none 0 0], []⟩ 8 (by kernel_rfl) (by kernel_rfl) (by kernel_rfl) (by kernel_rfl)) ?_
  intro W base args ds gs before hval0 hW hcnd _
  have hval : ∀ (j : Nat) t v, Try.f4.params[j]? = some t → args[j]? = some v → Value.okWide Try.prog W .any base t v := hval0
  have hW' := hW
  obtain ⟨p, q, hA0, hV, rfl, hfz, hnd⟩ := hW
  have hA : DataW.TrodAll enc Try.prog W 0 (fun _ => true) true Try.f4.params.toList args.toList ds p := hA0
  rw [Try.params4] at hA hval
  obtain ⟨v0, vs0, d0, ds0, p0, q0, hargs, rfl, rfl, h0, r0⟩ := trodAll_cons hA
  obtain ⟨v1, vs1, d1, ds1, p1, q1, rfl, rfl, rfl, h1, r1⟩ := trodAll_cons r0
  obtain ⟨rfl, rfl, rfl⟩ := trodAll_nil r1
  obtain rfl : args = #[v0, v1] := by cases args; simp_all
  obtain ⟨rfl, rfl⟩ := trodVars_none hV
  have hk : ∀ W', Kept W W' → Rows.readsetOnceSpec.post enc Try.prog Try.f4 false true false false W #[v0, v1] (.bool true) W' := fun W' hb =>
    post_law laidOut readable rfl Try.underlying4 rfl hW' rfl hb
  clear hA0 hval0 hA hW'
  obtain ⟨a0, rfl, rfl, rfl, w0⟩ := open_int Try.underlying3 (hval 0 3 v0 rfl rfl) h0
  obtain ⟨A1, n1, c1, z1, rfl, l1, m1, s1⟩ := open_slice Try.underlying22 Try.underlying3 cells3 (hval 1 22 v1 rfl rfl) h1
  refine (walk W a0 w0 A1 n1 c1 z1 l1 m1 s1).mono fun e W' ⟨he, hg⟩ => ?_
  subst he
  exact ⟨_, rfl, hk W' hg⟩

theorem over : Rows.readsetOnceRow.holds Try.pinned (OpenSpec.ofChange Rows.readsetOnceSpec) :=
  OpenClaim.holds_of_wide 4 Try.f4 rfl rfl rfl rfl rfl rfl rfl ⟨rfl, rfl, rfl, rfl, rfl⟩ rfl rfl rfl rfl rfl (by kernel_rfl) Try.func4 (by kernel_rfl)
    (of_decide_eq_true (by kernel_rfl)) (by unfold Func.isWrapper; first | (rw [if_pos (by decide +kernel)]; kernel_rfl) | (rw [if_neg (by decide +kernel)]; exact ⟨rfl, rfl⟩))
    (fun os started H enc _ => lifted os started H enc)

/-- The statement. -/
theorem proved : Rows.ReadsetOnceSaid :=
  over
#print axioms proved
end Go.Proofs.Ytcohfgenpbhfeaa.readsetOnce
