/-
  Proved: for every instruction, Check, Uses, Sets, Place and Skips give what the document says (as the reference of layer 3 gives it). No condition.
-/
import Derived.Test.YteccmhkjbidkpaaDoorRows
import Derived.WalkKit
import Derived.ProofKit
import Derived.OpenShut
import Derived.Test.YteccmhkjbidkpaaDoorFrame
import Derived.LaidMore
import Derived.Stop.Joined
import Derived.SevenTiedAt
import Derived.Test.YteccmhkjbidkpaaDoorTie
import Derived.Test.YteccmhkjbidkpaaDoorCards
import Derived.Test.YteccmhkjbidkpaaDoorIsaH
import Derived.Test.YteccmhkjbidkpaaDoorRefB
import Derived.Deep.RegionHeld3
namespace Go.Proofs.YteccmhkjbidkpaaDoor.isaChecks
open Go.ChangeShapes Go.WideShapes Go.ChangeAt Go.RowKit
open LawFrame
open Go.ChangeMaps (open_string)
set_option linter.unusedVariables false

theorem own : ownKnob Tryd.prog.godebug = none := by kernel_rfl
theorem laidOut : laidOutB Tryd.prog = true := by kernel_rfl

open PlainT IsaE IsaS BlkW IsaA IsaB IsaF IsaP IsaQ IsaX RefA RefB IsaL IsaH
set_option maxHeartbeats 1000000
set_option maxRecDepth 100000

theorem readable : ∀ t ∈ Tryd.f3.params.toList, Tryd.prog.readableRec t = true ∧ t < Tryd.prog.types.size := by
  have h : (Tryd.f3.params.toList.all fun t => Tryd.prog.readableRec t && decide (t < Tryd.prog.types.size)) = true := by kernel_rfl
  intro t ht
  have := List.all_eq_true.1 h t ht
  simpa using this

/-! The walk. -/
theorem walk (w : World) (hL : laidMetH Tryd.prog [("math/bits.deBruijn32tab", Rows.laid_math_bits_deBruijn32tab), ("math/bits.deBruijn64tab", Rows.laid_math_bits_deBruijn64tab), ("internal/strconv.uint64pow10", Rows.laid_internal_strconv_uint64pow10), ("strconv.ErrRange", Rows.laid_strconv_ErrRange), ("strconv.ErrSyntax", Rows.laid_strconv_ErrSyntax), ("strongtx/alu.names", Rows.laid_strongtx_alu_names), ("strongtx/isa.shapes", Rows.laid_strongtx_isa_shapes)] w) (o0 x0 y0 z0 n0 : Int) (wo0 : IsaF.InInt o0) (wx0 : IsaF.InInt x0) (wy0 : IsaF.InInt y0) (wz0 : IsaF.InInt z0) (wn0 : IsaF.InInt n0) :
    Calls Tryd.prog 3 #[IsaA.ins o0 x0 y0 z0 n0] w fun e w' => e = .returned (.bool true) ∧ Kept w w' := by
  show Calls _ _ #[.agg _] _ _
  have hE := env_of_laid hL
  clear hL
  obtain ⟨vc, hvc⟩ : ∃ v, chk o0 x0 y0 z0 n0 = v := ⟨_, rfl⟩
  obtain ⟨vs, hvs⟩ : ∃ v, setsV o0 x0 y0 z0 n0 = v := ⟨_, rfl⟩
  obtain ⟨vp, hvp⟩ : ∃ v, placeV o0 x0 y0 z0 n0 = v := ⟨_, rfl⟩
  obtain ⟨vk, hvk⟩ : ∃ v, skipsV o0 x0 y0 z0 n0 = v := ⟨_, rfl⟩
  obtain ⟨vb, hvb⟩ : ∃ v, skipsB o0 x0 y0 z0 n0 = v := ⟨_, rfl⟩
  have HC := Lib.hid hvc
  have HS := Lib.hid hvs
  have HP := Lib.hid hvp
  have HK := Lib.hid hvk
  have HB := Lib.hid hvb
  clear hvc hvs hvp hvk hvb wo0 wx0 wy0 wz0
  go_enter Tryd.func3, Tryd.ntmps3
  go_wp2_with fail
  refine (a_skips_v _ _ _ _ _ _ _ HB.out HK.out _ (hE.alloc _)).mono ?_
  rintro e w1 ⟨rfl, hb1⟩
  have hh1 := held_keep (held_of (held_new w hE o0 x0 y0 z0 n0)) hb1
  clear hb1
  obtain ⟨q0, q1, q2, q3, q4, hi1⟩ := hh1
  go_wp2_with fail
  refine (r_skips_v _ _ _ _ _ _ wn0 _ HB.out HK.out _).mono ?_
  rintro e w2 ⟨rfl, hb2⟩
  have hh2 := (held_keep (held_of hi1) hb2).2.2.2.2.2
  clear hb2 q0 q1 q2 q3 q4 hi1
  go_wp2_with fail
  go_region_held3 (Held w w.heap.size o0 x0 y0 z0 n0) (first | exact held_drew hh2 | exact held_keep (by assumption) (by assumption)) (first
    | (go_at_call 11; (with_reducible refine (a_check_v HC.out _ (held_env (by assumption))).mono ?_); rintro e w3 ⟨rfl, hb3⟩)
    | (go_at_call 12; (with_reducible refine (r_check_v wn0 HC.out _).mono ?_); rintro e w4 ⟨rfl, hb4⟩)
    | (go_at_call 14; (with_reducible refine (a_uses _ _ _ _ _ _ (held_env (by assumption))).mono ?_); rintro e w5 ⟨A1, m1, c1, rfl, p1, q1, r1, s1⟩)
    | (go_at_call 15; (with_reducible refine (r_uses _ _ _ _ _ wn0 _).mono ?_); rintro e w6 ⟨A2, m2, c2, rfl, p2, q2, r2, s2⟩)
    | (go_at_call 13; (with_reducible refine (k_ints _ _ _ _ _ _ _ _ p1 q1 (r1.old (Old.of_below s2)) r2).mono ?_); rintro e w7 ⟨rfl, hb7⟩)
    | (go_at_call 16; (with_reducible refine (a_sets_v _ _ _ _ _ _ HS.out _ (held_env (by assumption))).mono ?_); rintro e w8 ⟨rfl, hb8⟩)
    | (go_at_call 17; (with_reducible refine (r_sets_v _ _ _ _ _ _ wn0 HS.out _).mono ?_); rintro e w9 ⟨rfl, hb9⟩)
    | (go_at_call 18; (with_reducible refine (a_place_v _ _ _ _ _ _ HP.out _ (held_env (by assumption))).mono ?_); rintro e w10 ⟨rfl, hb10⟩)
    | (go_at_call 19; (with_reducible refine (r_place_v _ _ _ _ _ _ wn0 HP.out _).mono ?_); rintro e w11 ⟨rfl, hb11⟩)
    | (go_at_call 20; (with_reducible refine (l_awake _ (held_env (by assumption))).mono ?_); rintro e w12 ⟨rfl, hb12⟩))
  all_goals
    have hbz := held_below (by assumption)
    go_wp2
    go_ret
    exact ⟨rfl, Kept.of_below hbz⟩

/-! The heap that the program's own initialisers leave meets the row's condition. -/
theorem door_met (os : Os) (args : Array Value) : laidMetH Tryd.prog [("math/bits.deBruijn32tab", Rows.laid_math_bits_deBruijn32tab), ("math/bits.deBruijn64tab", Rows.laid_math_bits_deBruijn64tab), ("internal/strconv.uint64pow10", Rows.laid_internal_strconv_uint64pow10), ("strconv.ErrRange", Rows.laid_strconv_ErrRange), ("strconv.ErrSyntax", Rows.laid_strconv_ErrSyntax), ("strongtx/alu.names", Rows.laid_strongtx_alu_names), ("strongtx/isa.shapes", Rows.laid_strongtx_isa_shapes)] ((World.doorLaid Tryd.prog 400 os).forCall (fun _ _ => 0) ⟨#[], args, []⟩).memory :=
  laidMetH_of_parts3 (fuel := 8) (laidMet_of_run' 8 (by kernel_rfl) (by kernel_rfl)) (by kernel_rfl) (by kernel_rfl)

/-! The row's step. -/
set_option maxRecDepth 100000 in
theorem lifted (os : Os) (started : os.Started) (H : Type) (enc : TypeId × Value → H) :
    ReturnsInHanded {} Tryd.checked os 3 .any (fun w args => (Rows.isaChecksSpec.pre enc Tryd.prog Tryd.f3 Rows.isaChecksRow.domain false w args ∧ laidMetH Tryd.prog [("math/bits.deBruijn32tab", Rows.laid_math_bits_deBruijn32tab), ("math/bits.deBruijn64tab", Rows.laid_math_bits_deBruijn64tab), ("internal/strconv.uint64pow10", Rows.laid_internal_strconv_uint64pow10), ("strconv.ErrRange", Rows.laid_strconv_ErrRange), ("strconv.ErrSyntax", Rows.laid_strconv_ErrSyntax), ("strongtx/alu.names", Rows.laid_strongtx_alu_names), ("strongtx/isa.shapes", Rows.laid_strongtx_isa_shapes)] w) ∧ sizedMet enc Tryd.prog Tryd.f3 (OpenSpec.ofChange Rows.isaChecksSpec) false w args)
      (Rows.isaChecksSpec.post enc Tryd.prog Tryd.f3 false true false false) := by
  refine returnsInHanded_of_change_and (C := Tryd.checked) (X := fun w _ => laidMetH Tryd.prog [("math/bits.deBruijn32tab", Rows.laid_math_bits_deBruijn32tab), ("math/bits.deBruijn64tab", Rows.laid_math_bits_deBruijn64tab), ("internal/strconv.uint64pow10", Rows.laid_internal_strconv_uint64pow10), ("strconv.ErrRange", Rows.laid_strconv_ErrRange), ("strconv.ErrSyntax", Rows.laid_strconv_ErrSyntax), ("strongtx/alu.names", Rows.laid_strongtx_alu_names), ("strongtx/isa.shapes", Rows.laid_strongtx_isa_shapes)] w) (fun _ _ _ hh h => h.of_heap hh) own started (by kernel_rfl) Tryd.func3
    (ChangeSpec.witness_shaped (enc := enc) (C := Tryd.checked) (os := os) (X := fun w _ => laidMetH Tryd.prog [("math/bits.deBruijn32tab", Rows.laid_math_bits_deBruijn32tab), ("math/bits.deBruijn64tab", Rows.laid_math_bits_deBruijn64tab), ("internal/strconv.uint64pow10", Rows.laid_internal_strconv_uint64pow10), ("strconv.ErrRange", Rows.laid_strconv_ErrRange), ("strconv.ErrSyntax", Rows.laid_strconv_ErrSyntax), ("strongtx/alu.names", Rows.laid_strongtx_alu_names), ("strongtx/isa.shapes", Rows.laid_strongtx_isa_shapes)] w) false (World.doorLaid Tryd.prog 400 os) #[.agg #[.int .i64 0, .int .i64 0, .int .i64 0, .int .i64 0, .int .i64 0]] 8 rfl (World.shaped_of_RefB (by kernel_rfl) (by kernel_rfl)) (by kernel_rfl) (by kernel_rfl) (by kernel_rfl) (door_met os _)) ?_
  intro W base args ds gs before hval0 hW hcnd _ hL _
  have hval : ∀ (j : Nat) t v, Tryd.f3.params[j]? = some t → args[j]? = some v → Value.okWide Tryd.prog W .any base t v := hval0
  have hW' := hW
  obtain ⟨p, q, hA0, hV, rfl, hfz, hnd⟩ := hW
  have hA : DataW.TrodAll enc Tryd.prog W 0 (fun _ => true) true Tryd.f3.params.toList args.toList ds p := hA0
  rw [Tryd.params3] at hA hval
  obtain ⟨v0, vs0, d0, ds0, p0, q0, hargs, rfl, rfl, h0, r0⟩ := trodAll_cons hA
  obtain ⟨rfl, rfl, rfl⟩ := trodAll_nil r0
  obtain rfl : args = #[v0] := by cases args; simp_all
  obtain ⟨rfl, rfl⟩ := trodVars_none hV
  have hk : ∀ W', Kept W W' → Rows.isaChecksSpec.post enc Tryd.prog Tryd.f3 false true false false W #[v0] (.bool true) W' := fun W' hb =>
    post_law laidOut readable rfl Tryd.underlying4 rfl hW' rfl hb
  clear hA0 hval0 hA hW'
  obtain ⟨o0, x0, y0, z0, n0, rfl, wo0, wx0, wy0, wz0, wn0⟩ := IsaH.open_ins (hval 0 23 v0 rfl rfl) h0
  refine (walk W hL o0 x0 y0 z0 n0 wo0 wx0 wy0 wz0 wn0).mono fun e W' ⟨he, hg⟩ => ?_
  subst he
  exact ⟨_, rfl, hk W' hg⟩

theorem over : Rows.isaChecksRow.holds Tryd.pinned (OpenSpec.ofChange Rows.isaChecksSpec) :=
  OpenClaim.holds_of_wide 3 Tryd.f3 rfl rfl rfl rfl rfl rfl rfl ⟨rfl, rfl, rfl, rfl, rfl⟩ rfl rfl rfl rfl rfl (by kernel_rfl) Tryd.func3 (by kernel_rfl)
    (of_decide_eq_true (by kernel_rfl)) (by unfold Func.isWrapper; first | (rw [if_pos (by decide +kernel)]; kernel_rfl) | (rw [if_neg (by decide +kernel)]; exact ⟨rfl, rfl⟩))
    (fun os started H enc _ => lifted os started H enc)

/-- The row. -/
theorem row : Rows.IsaChecksSaid :=
  over

/-- The statement: the tied card. -/
theorem proved : Rows.IsaChecksCardSaid :=
  Claim7.holds_tied_plain_at .later [] [.data, .data, .data, .sentinel, .sentinel, .data, .data] true (true, "67b1b3513a4c7348bb2a79962359c186c20063586a8da92b2ff6acc8b69351b0") true
    row (fun _ h => by cases h) (by kernel_rfl) (fun _ h => by cases h) isaChecks_row_tie rfl ⟨rfl, rfl⟩ (by kernel_rfl) rfl
    (fun f fn hf hfn => by
      obtain rfl : f = 3 := Option.some.inj ((show Tryd.prog.funcNamed "strongtx/strongtxlaw03.IsaChecks" = some 3 by kernel_rfl).symm.trans hf) |>.symm
      obtain rfl : fn = Tryd.f3 := (Option.some.inj (Tryd.func3.symm.trans hfn)).symm
      exact ⟨by kernel_rfl, fun j t ht => by
        rw [Tryd.params3] at ht
        have hm : t ∈ [23] := by simpa using Array.mem_of_getElem? ht
        have hall : ([23].all fun u => !Tryd.prog.wantsStandIn u) = true := by kernel_rfl
        exact (show Tryd.prog.wantsStandIn t = false by simpa using List.all_eq_true.1 hall t hm)⟩)
    (by kernel_rfl)
#print axioms proved
end Go.Proofs.YteccmhkjbidkpaaDoor.isaChecks
