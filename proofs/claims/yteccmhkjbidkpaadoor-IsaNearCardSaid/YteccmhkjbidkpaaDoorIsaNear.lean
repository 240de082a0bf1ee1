/-
  Proved: for instructions with small fields, of which some are valid, Check, Uses, Sets, Place and Format give what the document says (as the reference of layer 3 gives it). No condition.
-/
import Derived.Test.YteccmhkjbidkpaaDoorRows
import Derived.WalkKit
import Derived.ProofKit
import Derived.OpenShut
import Derived.Test.YteccmhkjbidkpaaDoorFrame
import Derived.LaidMore
import Derived.Stop.Joined
import Derived.SevenTiedAt
import Derived.Test.YteccmhkjbidkpaaDoorTie
import Derived.Test.YteccmhkjbidkpaaDoorCards
import Derived.Test.YteccmhkjbidkpaaDoorIsaH
import Derived.Test.YteccmhkjbidkpaaDoorRefB
import Derived.Test.YteccmhkjbidkpaaDoorRefF
import Derived.Deep.RegionHeld3
import Derived.Deep.DeepCutAuto
namespace Go.Proofs.YteccmhkjbidkpaaDoor.isaNear
open Go.ChangeShapes Go.WideShapes Go.ChangeAt Go.RowKit
open LawFrame
open Go.ChangeMaps (open_string)
set_option linter.unusedVariables false

theorem own : ownKnob Tryd.prog.godebug = none := by kernel_rfl
theorem laidOut : laidOutB Tryd.prog = true := by kernel_rfl

open PlainT IsaE IsaS BlkW IsaA IsaB IsaF IsaP IsaQ IsaX RefA RefB RefF IsaL IsaH
set_option maxHeartbeats 1000000
set_option maxRecDepth 100000
theorem pl_int (a m : Int) (h0 : 0 < m) (h1 : m ≤ 1000) : ∃ v, pl a m = v ∧ 0 ≤ v ∧ v ≤ m - 1 := ⟨_, rfl, pl_in a m h0 h1⟩
theorem small_in {x : Int} (h : -1000 ≤ x ∧ x ≤ 1000) : InInt x := by unfold InInt; omega

theorem readable : ∀ t ∈ Tryd.f4.params.toList, Tryd.prog.readableRec t = true ∧ t < Tryd.prog.types.size := by
  have h : (Tryd.f4.params.toList.all fun t => Tryd.prog.readableRec t && decide (t < Tryd.prog.types.size)) = true := by kernel_rfl
  intro t ht
  have := List.all_eq_true.1 h t ht
  simpa using this

/-! The walk. -/
theorem walk (w : World) (hL : laidMetH Tryd.prog [("math/bits.deBruijn32tab", Rows.laid_math_bits_deBruijn32tab), ("math/bits.deBruijn64tab", Rows.laid_math_bits_deBruijn64tab), ("internal/strconv.uint64pow10", Rows.laid_internal_strconv_uint64pow10), ("strconv.ErrRange", Rows.laid_strconv_ErrRange), ("strconv.ErrSyntax", Rows.laid_strconv_ErrSyntax), ("strongtx/alu.names", Rows.laid_strongtx_alu_names), ("strongtx/isa.shapes", Rows.laid_strongtx_isa_shapes)] w) (a0 : Int) (w0 : (Lit.int .i64 a0).wf = true) (a1 : Int) (w1 : (Lit.int .i64 a1).wf = true) (a2 : Int) (w2 : (Lit.int .i64 a2).wf = true) (a3 : Int) (w3 : (Lit.int .i64 a3).wf = true) (a4 : Int) (w4 : (Lit.int .i64 a4).wf = true) (a5 : Int) (w5 : (Lit.int .i64 a5).wf = true) :
    Calls Tryd.prog 4 #[.int .i64 a0, .int .i64 a1, .int .i64 a2, .int .i64 a3, .int .i64 a4, .int .i64 a5] w fun e w' => e = .returned (.bool true) ∧ Kept w w' := by
  have hE := env_of_laid hL
  clear hL
  obtain ⟨o, ho, o0, o1⟩ := pl_int a0 19 (by omega) (by omega)
  obtain ⟨x, hx, x0, x1⟩ := pl_int a1 9 (by omega) (by omega)
  obtain ⟨y, hy, y0, y1⟩ := pl_int a2 9 (by omega) (by omega)
  obtain ⟨z, hz, z0, z1⟩ := pl_int a3 9 (by omega) (by omega)
  obtain ⟨n, hn, n0, n1⟩ := pl_int a4 70 (by omega) (by omega)
  have HO := Lib.hid ho
  have HX := Lib.hid hx
  have HY := Lib.hid hy
  have HZ := Lib.hid hz
  have HN := Lib.hid hn
  have io : InInt o := small_in (by omega)
  have ix : InInt x := small_in (by omega)
  have iy : InInt y := small_in (by omega)
  have iz : InInt z := small_in (by omega)
  have i_n : InInt (n - 2) := small_in (by omega)
  have i0 : InInt 0 := small_in (by omega)
  clear ho hx hy hz hn w0 w1 w2 w3 w4 w5
  go_enter Tryd.func4, Tryd.ntmps4
  go_wp2_with fail
  refine (l_near _ _ _ _ _ _ _ _ _ _ HO.out HX.out HY.out HZ.out HN.out _).mono ?_
  rintro e w1 ⟨rfl, hb1⟩
  have hE1 := hE.below hb1
  have hh1 := held_new w1 hE1 o x y z (n - 2)
  have hbb := hb1
  clear hh1 hE1
  go_upto_if 26 with fail
  go_cut [13] (fun s13 wc => s13 = .pointer (some ⟨w1.heap.size, 0, none⟩) ∧ ∃ z', InInt z' ∧ wc = w1.alloc (.cells (boxed o x y z' (n - 2)) 23))
  case first =>
    go_wp2_with fail
    all_goals go_meet
    · exact ⟨rfl, 0, i0, rfl⟩
    · exact ⟨rfl, z, iz, rfl⟩
  case rest =>
    obtain ⟨rfl, z', iz', rfl⟩ := hcut
    go_upto_if 30 with fail
    go_cut [13] (fun s13 wc => s13 = .pointer (some ⟨w1.heap.size, 0, none⟩) ∧ ∃ y', InInt y' ∧ wc = w1.alloc (.cells (boxed o x y' z' (n - 2)) 23))
    case first =>
      go_wp2_with fail
      all_goals go_meet
      · exact ⟨rfl, 0, i0, rfl⟩
      · exact ⟨rfl, y, iy, rfl⟩
    case rest =>
      obtain ⟨rfl, y', iy', rfl⟩ := hcut
      obtain ⟨vc, hvc⟩ : ∃ v, chk o x y' z' (n - 2) = v := ⟨_, rfl⟩
      obtain ⟨vs, hvs⟩ : ∃ v, setsV o x y' z' (n - 2) = v := ⟨_, rfl⟩
      obtain ⟨vp, hvp⟩ : ∃ v, placeV o x y' z' (n - 2) = v := ⟨_, rfl⟩
      obtain ⟨vf, hvf⟩ : ∃ v, formatV o x y' z' (n - 2) = v := ⟨_, rfl⟩
      have HC := Lib.hid hvc
      have HS := Lib.hid hvs
      have HP := Lib.hid hvp
      have HF := Lib.hid hvf
      clear hvc hvs hvp hvf o0 o1 x0 x1 y0 y1 z0 z1 n0 n1 HO HX HY HZ HN
      have hE1 := hE.below hbb
      have hn := held_new w1 hE1 o x y' z' (n - 2)
      obtain ⟨q0, q1, q2, q3, q4, hi0⟩ := held_of hn
      go_wp2_with fail
      refine (a_format _ _ _ _ _ ix iy' iz' i_n _ (hE1.alloc _)).mono ?_
      rintro e w2 ⟨rfl, hb2⟩
      rw [HC.out, HF.out]
      have hh1 := held_keep (held_of hn) hb2
      clear hb2 q0 q1 q2 q3 q4 hi0 hn
      have hE2 := held_env hh1
      obtain ⟨q0, q1, q2, q3, q4, hi1⟩ := hh1
      go_wp2_with fail
      refine (r_format _ _ _ _ _ ix iy' iz' i_n _ hE2).mono ?_
      rintro e w3 ⟨rfl, hb3⟩
      rw [HC.out, HF.out]
      have hh2 := (held_keep (held_of hi1) hb3).2.2.2.2.2
      clear hb3 q0 q1 q2 q3 q4 hi1 hE2
      go_wp2_with fail
      go_region_held3 (Held w1 w1.heap.size o x y' z' (n - 2)) (first | exact held_drew hh2 | exact held_keep (by assumption) (by assumption)) (first
        | (go_at_call 11; (with_reducible refine (a_check_v HC.out _ (held_env (by assumption))).mono ?_); rintro e w3 ⟨rfl, hb3⟩)
        | (go_at_call 12; (with_reducible refine (r_check_v i_n HC.out _).mono ?_); rintro e w4 ⟨rfl, hb4⟩)
        | (go_at_call 14; (with_reducible refine (a_uses _ _ _ _ _ _ (held_env (by assumption))).mono ?_); rintro e w5 ⟨A1, m1, c1, rfl, p1, q1, r1, s1⟩)
        | (go_at_call 15; (with_reducible refine (r_uses _ _ _ _ _ i_n _).mono ?_); rintro e w6 ⟨A2, m2, c2, rfl, p2, q2, r2, s2⟩)
        | (go_at_call 13; (with_reducible refine (k_ints _ _ _ _ _ _ _ _ p1 q1 (r1.old (Old.of_below s2)) r2).mono ?_); rintro e w7 ⟨rfl, hb7⟩)
        | (go_at_call 16; (with_reducible refine (a_sets_v _ _ _ _ _ _ HS.out _ (held_env (by assumption))).mono ?_); rintro e w8 ⟨rfl, hb8⟩)
        | (go_at_call 17; (with_reducible refine (r_sets_v _ _ _ _ _ _ i_n HS.out _).mono ?_); rintro e w9 ⟨rfl, hb9⟩)
        | (go_at_call 18; (with_reducible refine (a_place_v _ _ _ _ _ _ HP.out _ (held_env (by assumption))).mono ?_); rintro e w10 ⟨rfl, hb10⟩)
        | (go_at_call 19; (with_reducible refine (r_place_v _ _ _ _ _ _ i_n HP.out _).mono ?_); rintro e w11 ⟨rfl, hb11⟩)
        | (go_at_call 20; (with_reducible refine (l_awake _ (held_env (by assumption))).mono ?_); rintro e w12 ⟨rfl, hb12⟩))
      all_goals
        have hbz := below_trans2 hbb (held_below (by assumption))
        go_wp2
        go_ret
        exact ⟨rfl, Kept.of_below hbz⟩

/-! The heap that the program's own initialisers leave meets the row's condition. -/
theorem door_met (os : Os) (args : Array Value) : laidMetH Tryd.prog [("math/bits.deBruijn32tab", Rows.laid_math_bits_deBruijn32tab), ("math/bits.deBruijn64tab", Rows.laid_math_bits_deBruijn64tab), ("internal/strconv.uint64pow10", Rows.laid_internal_strconv_uint64pow10), ("strconv.ErrRange", Rows.laid_strconv_ErrRange), ("strconv.ErrSyntax", Rows.laid_strconv_ErrSyntax), ("strongtx/alu.names", Rows.laid_strongtx_alu_names), ("strongtx/isa.shapes", Rows.laid_strongtx_isa_shapes)] ((World.doorLaid Tryd.prog 400 os).forCall (fun _ _ => 0) ⟨#[], args, []⟩).memory :=
  laidMetH_of_parts3 (fuel := 8) (laidMet_of_run' 8 (by kernel_rfl) (by kernel_rfl)) (by kernel_rfl) (by kernel_rfl)

/-! The row's step. -/
set_option maxRecDepth 100000 in
theorem lifted (os : Os) (started : os.Started) (H : Type) (enc : TypeId × Value → H) :
    ReturnsInHanded {} Tryd.checked os 4 .any (fun w args => (Rows.isaNearSpec.pre enc Tryd.prog Tryd.f4 Rows.isaNearRow.domain false w args ∧ laidMetH Tryd.prog [("math/bits.deBruijn32tab", Rows.laid_math_bits_deBruijn32tab), ("math/bits.deBruijn64tab", Rows.laid_math_bits_deBruijn64tab), ("internal/strconv.uint64pow10", Rows.laid_internal_strconv_uint64pow10), ("strconv.ErrRange", Rows.laid_strconv_ErrRange), ("strconv.ErrSyntax", Rows.laid_strconv_ErrSyntax), ("strongtx/alu.names", Rows.laid_strongtx_alu_names), ("strongtx/isa.shapes", Rows.laid_strongtx_isa_shapes)] w) ∧ sizedMet enc Tryd.prog Tryd.f4 (OpenSpec.ofChange Rows.isaNearSpec) false w args)
      (Rows.isaNearSpec.post enc Tryd.prog Tryd.f4 false true false false) := by
  refine returnsInHanded_of_change_and (C := Tryd.checked) (X := fun w _ => laidMetH Tryd.prog [("math/bits.deBruijn32tab", Rows.laid_math_bits_deBruijn32tab), ("math/bits.deBruijn64tab", Rows.laid_math_bits_deBruijn64tab), ("internal/strconv.uint64pow10", Rows.laid_internal_strconv_uint64pow10), ("strconv.ErrRange", Rows.laid_strconv_ErrRange), ("strconv.ErrSyntax", Rows.laid_strconv_ErrSyntax), ("strongtx/alu.names", Rows.laid_strongtx_alu_names), ("strongtx/isa.shapes", Rows.laid_strongtx_isa_shapes)] w) (fun _ _ _ hh h => h.of_heap hh) own started (by kernel_rfl) Tryd.func4
    (ChangeSpec.witness_shaped (enc := enc) (C := Tryd.checked) (os := os) (X := fun w _ => laidMetH Tryd.prog [("math/bits.deBruijn32tab", Rows.laid_math_bits_deBruijn32tab), ("math/bits.deBruijn64tab", Rows.laid_math_bits_deBruijn64tab), ("internal/strconv.uint64pow10", Rows.laid_internal_strconv_uint64pow10), ("strconv.ErrRange", Rows.laid_strconv_ErrRange), ("strconv.ErrSyntax", Rows.laid_strconv_ErrSyntax), ("strongtx/alu.names", Rows.laid_strongtx_alu_names), ("strongtx/isa.shapes", Rows.laid_strongtx_isa_shapes)] w) false (World.doorLaid Tryd.prog 400 os) #[.int .i64 0, .int .i64 0, .int .i64 0, .int .i64 0, .int .i64 0, .int .i64 0] 8 rfl (World.shaped_of_RefB (by kernel_rfl) (by kernel_rfl)) (by kernel_rfl) (by kernel_rfl) (by kernel_rfl) (door_met os _)) ?_
  intro W base args ds gs before hval0 hW hcnd _ hL _
  have hval : ∀ (j : Nat) t v, Tryd.f4.params[j]? = some t → args[j]? = some v → Value.okWide Tryd.prog W .any base t v := hval0
  have hW' := hW
  obtain ⟨p, q, hA0, hV, rfl, hfz, hnd⟩ := hW
  have hA : DataW.TrodAll enc Tryd.prog W 0 (fun _ => true) true Tryd.f4.params.toList args.toList ds p := hA0
  rw [Tryd.params4] at hA hval
  obtain ⟨v0, vs0, d0, ds0, p0, q0, hargs, rfl, rfl, h0, r0⟩ := trodAll_cons hA
  obtain ⟨v1, vs1, d1, ds1, p1, q1, rfl, rfl, rfl, h1, r1⟩ := trodAll_cons r0
  obtain ⟨v2, vs2, d2, ds2, p2, q2, rfl, rfl, rfl, h2, r2⟩ := trodAll_cons r1
  obtain ⟨v3, vs3, d3, ds3, p3, q3, rfl, rfl, rfl, h3, r3⟩ := trodAll_cons r2
  obtain ⟨v4, vs4, d4, ds4, p4, q4, rfl, rfl, rfl, h4, r4⟩ := trodAll_cons r3
  obtain ⟨v5, vs5, d5, ds5, p5, q5, rfl, rfl, rfl, h5, r5⟩ := trodAll_cons r4
  obtain ⟨rfl, rfl, rfl⟩ := trodAll_nil r5
  obtain rfl : args = #[v0, v1, v2, v3, v4, v5] := by cases args; simp_all
  obtain ⟨rfl, rfl⟩ := trodVars_none hV
  have hk : ∀ W', Kept W W' → Rows.isaNearSpec.post enc Tryd.prog Tryd.f4 false true false false W #[v0, v1, v2, v3, v4, v5] (.bool true) W' := fun W' hb =>
    post_law laidOut readable rfl Tryd.underlying4 rfl hW' rfl hb
  clear hA0 hval0 hA hW'
  obtain ⟨a0, rfl, rfl, rfl, w0⟩ := open_int Tryd.underlying3 (hval 0 3 v0 rfl rfl) h0
  obtain ⟨a1, rfl, rfl, rfl, w1⟩ := open_int Tryd.underlying3 (hval 1 3 v1 rfl rfl) h1
  obtain ⟨a2, rfl, rfl, rfl, w2⟩ := open_int Tryd.underlying3 (hval 2 3 v2 rfl rfl) h2
  obtain ⟨a3, rfl, rfl, rfl, w3⟩ := open_int Tryd.underlying3 (hval 3 3 v3 rfl rfl) h3
  obtain ⟨a4, rfl, rfl, rfl, w4⟩ := open_int Tryd.underlying3 (hval 4 3 v4 rfl rfl) h4
  obtain ⟨a5, rfl, rfl, rfl, w5⟩ := open_int Tryd.underlying3 (hval 5 3 v5 rfl rfl) h5
  refine (walk W hL a0 w0 a1 w1 a2 w2 a3 w3 a4 w4 a5 w5).mono fun e W' ⟨he, hg⟩ => ?_
  subst he
  exact ⟨_, rfl, hk W' hg⟩

theorem over : Rows.isaNearRow.holds Tryd.pinned (OpenSpec.ofChange Rows.isaNearSpec) :=
  OpenClaim.holds_of_wide 4 Tryd.f4 rfl rfl rfl rfl rfl rfl rfl ⟨rfl, rfl, rfl, rfl, rfl⟩ rfl rfl rfl rfl rfl (by kernel_rfl) Tryd.func4 (by kernel_rfl)
    (of_decide_eq_true (by kernel_rfl)) (by unfold Func.isWrapper; first | (rw [if_pos (by decide +kernel)]; kernel_rfl) | (rw [if_neg (by decide +kernel)]; exact ⟨rfl, rfl⟩))
    (fun os started H enc _ => lifted os started H enc)

/-- The row. -/
theorem row : Rows.IsaNearSaid :=
  over

/-- The statement: the tied card. -/
theorem proved : Rows.IsaNearCardSaid :=
  Claim7.holds_tied_plain_at .later [] [.data, .data, .data, .sentinel, .sentinel, .data, .data] true (true, "67b1b3513a4c7348bb2a79962359c186c20063586a8da92b2ff6acc8b69351b0") true
    row (fun _ h => by cases h) (by kernel_rfl) (fun _ h => by cases h) isaNear_row_tie rfl ⟨rfl, rfl⟩ (by kernel_rfl) rfl
    (fun f fn hf hfn => by
      obtain rfl : f = 4 := Option.some.inj ((show Tryd.prog.funcNamed "strongtx/strongtxlaw03.IsaNear" = some 4 by kernel_rfl).symm.trans hf) |>.symm
      obtain rfl : fn = Tryd.f4 := (Option.some.inj (Tryd.func4.symm.trans hfn)).symm
      exact ⟨by kernel_rfl, fun j t ht => by
        rw [Tryd.params4] at ht
        have hm : t ∈ [3, 3, 3, 3, 3, 3] := by simpa using Array.mem_of_getElem? ht
        have hall : ([3, 3, 3, 3, 3, 3].all fun u => !Tryd.prog.wantsStandIn u) = true := by kernel_rfl
        exact (show Tryd.prog.wantsStandIn t = false by simpa using List.all_eq_true.1 hall t hm)⟩)
    (by kernel_rfl)
#print axioms proved
end Go.Proofs.YteccmhkjbidkpaaDoor.isaNear
