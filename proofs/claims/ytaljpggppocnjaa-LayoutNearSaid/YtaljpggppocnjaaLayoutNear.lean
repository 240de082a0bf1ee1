/-
  Proved: for configurations that are made from five numbers, and for those of which one field is changed, Check, Blocks, Class, First, Find and Orec give what the document says (as the reference of layer 7 gives it). No condition.
-/
import Derived.Test.YtaljpggppocnjaaRows
import Derived.WalkKit
import Derived.ProofKit
import Derived.OpenShut
import Derived.Test.YtaljpggppocnjaaFrame
import Derived.Test.YtaljpggppocnjaaLayO
import Derived.Test.YtaljpggppocnjaaLayL
import Derived.Test.YtaljpggppocnjaaLayM
import Derived.Test.YtaljpggppocnjaaLayP
namespace Go.Proofs.Ytaljpggppocnjaa.layoutNear
open Go.ChangeShapes Go.WideShapes Go.ChangeAt Go.RowKit
open LawFrame
open Go.ChangeMaps (open_string)
set_option linter.unusedVariables false

theorem own : ownKnob Try.prog.godebug = none := by kernel_rfl
theorem laidOut : laidOutB Try.prog = true := by kernel_rfl

open PlainT BlkW LayS LayA LayH LayK LayL LayM LayO LayP
set_option maxHeartbeats 1000000
set_option maxRecDepth 100000
theorem u64_lo (a : Int) : 0 ≤ IntKind.u64.wrap a := (bounds_u64 (wf_wrap .u64 a)).1
theorem u64_hi (a : Int) : IntKind.u64.wrap a ≤ 18446744073709551615 := (bounds_u64 (wf_wrap .u64 a)).2

theorem readable : ∀ t ∈ Try.f4.params.toList, Try.prog.readableRec t = true ∧ t < Try.prog.types.size := by
  have h : (Try.f4.params.toList.all fun t => Try.prog.readableRec t && decide (t < Try.prog.types.size)) = true := by kernel_rfl
  intro t ht
  have := List.all_eq_true.1 h t ht
  simpa using this

/-! The walk. -/
theorem walk (w : World) (x0_0 x0_1 x0_2 x0_3 x0_4 : Int) (wx0_0 : LayS.InI x0_0) (wx0_1 : LayS.InI x0_1) (wx0_2 : LayS.InI x0_2) (wx0_3 : LayS.InI x0_3) (wx0_4 : LayS.InI x0_4) (a1 : Int) (w1 : (Lit.int .i64 a1).wf = true) (a2 : Int) (w2 : (Lit.int .i64 a2).wf = true) (a3 : Int) (w3 : (Lit.int .i64 a3).wf = true) (a4 : Int) (w4 : (Lit.int .i64 a4).wf = true) :
    Calls Try.prog 4 #[.agg #[.int .i64 x0_0, .int .i64 x0_1, .int .i64 x0_2, .int .i64 x0_3, .int .i64 x0_4], .int .i64 a1, .int .i64 a2, .int .i64 a3, .int .i64 a4] w fun e w' => e = .returned (.bool true) ∧ Kept w w' := by
  show Calls _ _ #[.agg _, _, _, _, _] _ _
  clear wx0_0 wx0_1 wx0_2 wx0_3 wx0_4 w1 w2 w3 w4
  have HB0 := Lib.hid (below_new w (.cells #[.int .i64 x0_0, .int .i64 x0_1, .int .i64 x0_2, .int .i64 x0_3, .int .i64 x0_4] 28))
  go_enter Try.func4, Try.ntmps4
  go_wp2_with fail
  refine (l_config _ _ _ _ _ _).mono ?_
  rintro e w1 ⟨q, rfl, hmade, hb1⟩
  have HB1 := Lib.hid (below_trans2 HB0.out hb1)
  have hq := hq_new w1 q
  clear hmade hb1
  go_wp2_with fail
  refine (k_place_ex _ _ (by omega) (by omega) _).mono ?_
  rintro e w2 ⟨n, n0, n1, rfl, rfl⟩
  simp only [Int.reduceSub] at n1
  have hwn : IntKind.i64.wrap (n - 3) = n - 3 := IntWalk.i64_in _ (by omega)
  go_wp2_with fail
  go_loopw [13] (fun iv wr => ∃ i : Int, -1 ≤ i ∧ i ≤ 9 ∧ iv = .int .i64 i ∧ HQ w1 w1.heap.size q wr) (fun iv _ => (9 - intOf iv).toNat)
  case atStart => exact ⟨-1, by omega, by omega, rfl, hq⟩
  case round =>
    obtain ⟨i, i0, i1, rfl, hr⟩ := hrel
    clear hq
    obtain ⟨d0, d1, d2, d3, d4, d5, d6, d7, d8, d9, d10, d11, d12, _⟩ := heldq_of hr
    by_cases hlt : i < 9
    · go_wp2_with (go_at_call 7; (with_reducible refine (l_agrees q _ _ (u64_lo _) (u64_hi _) _).mono ?_); rintro e w3 ⟨rfl, hb3⟩; have hk := heldq_hq (heldq_keep (heldq_of hr) hb3))
      go_roundw
      case rel => exact ⟨i + 1, by omega, by omega, rfl, hk⟩
      case measure => simp [intOf]; omega
    · clear d0 d1 d2 d3 d4 d5 d6 d7 d8 d9 d10 d11 d12
      go_wp2_with fail
      go_region_held3 (HeldQ w1 w1.heap.size q) (first | exact heldq_drew hr | exact heldq_keep (by assumption) (by assumption)) (first
        | (go_at_call 11; (with_reducible refine (l_spoil q _ _ _).mono ?_); rintro e w5 ⟨q5, rfl, hb5⟩)
        | (go_at_call 7; (with_reducible refine (l_agrees _ _ _ (u64_lo _) (u64_hi _) _).mono ?_); rintro e w6 ⟨rfl, hb6⟩)
        | (go_at_call 10; (with_reducible refine (place_below _ _ (by omega) (by omega) _).mono ?_); rintro e w7 ⟨m, m0, m1, rfl, hb7⟩)
        | (go_at_call 8; (with_reducible refine (l_awake _).mono ?_); rintro e w8 ⟨rfl, hb8⟩))
      all_goals
        have hqz := heldq_hq (by assumption : HeldQ w1 w1.heap.size q _)
        go_wp2
        go_ret
        exact ⟨rfl, Kept.of_below (below_trans2 HB1.out hqz.2)⟩

/-! The row's step. -/
set_option maxRecDepth 100000 in
theorem lifted (os : Os) (started : os.Started) (H : Type) (enc : TypeId × Value → H) :
    ReturnsInHanded {} Try.checked os 4 .any (Rows.layoutNearSpec.pre6 enc Try.prog Try.f4 Rows.layoutNearRow.domain false) (Rows.layoutNearSpec.post enc Try.prog Try.f4 false true false false) := by
  refine returnsInHanded_of_change (C := Try.checked) own started (by kernel_rfl) Try.func4
    (ChangeSpec.witness6 (enc := enc) (C := Try.checked) false ⟨#[], #[.agg #[.int .i64 0, .int .i64 0, .int .i64 0, .int .i64 0, .int .i64 0], .int .i64 0, .int .i64 0, .int .i64 0, .int .i64 0], []⟩ 8 (by kernel_rfl) (by kernel_rfl) (by kernel_rfl) (by kernel_rfl)) ?_
  intro W base args ds gs before hval0 hW hcnd _
  have hval : ∀ (j : Nat) t v, Try.f4.params[j]? = some t → args[j]? = some v → Value.okWide Try.prog W .any base t v := hval0
  have hW' := hW
  obtain ⟨p, q, hA0, hV, rfl, hfz, hnd⟩ := hW
  have hA : DataW.TrodAll enc Try.prog W 0 (fun _ => true) true Try.f4.params.toList args.toList ds p := hA0
  rw [Try.params4] at hA hval
  obtain ⟨v0, vs0, d0, ds0, p0, q0, hargs, rfl, rfl, h0, r0⟩ := trodAll_cons hA
  obtain ⟨v1, vs1, d1, ds1, p1, q1, rfl, rfl, rfl, h1, r1⟩ := trodAll_cons r0
  obtain ⟨v2, vs2, d2, ds2, p2, q2, rfl, rfl, rfl, h2, r2⟩ := trodAll_cons r1
  obtain ⟨v3, vs3, d3, ds3, p3, q3, rfl, rfl, rfl, h3, r3⟩ := trodAll_cons r2
  obtain ⟨v4, vs4, d4, ds4, p4, q4, rfl, rfl, rfl, h4, r4⟩ := trodAll_cons r3
  obtain ⟨rfl, rfl, rfl⟩ := trodAll_nil r4
  obtain rfl : args = #[v0, v1, v2, v3, v4] := by cases args; simp_all
  obtain ⟨rfl, rfl⟩ := trodVars_none hV
  have hk : ∀ W', Kept W W' → Rows.layoutNearSpec.post enc Try.prog Try.f4 false true false false W #[v0, v1, v2, v3, v4] (.bool true) W' := fun W' hb =>
    post_law laidOut readable rfl Try.underlying4 rfl hW' rfl hb
  clear hA0 hval0 hA hW'
  obtain ⟨x0_0, x0_1, x0_2, x0_3, x0_4, rfl, wx0_0, wx0_1, wx0_2, wx0_3, wx0_4⟩ := LayO.open_arr5 (hval 0 28 v0 rfl rfl) h0
  obtain ⟨a1, rfl, rfl, rfl, w1⟩ := open_int Try.underlying3 (hval 1 3 v1 rfl rfl) h1
  obtain ⟨a2, rfl, rfl, rfl, w2⟩ := open_int Try.underlying3 (hval 2 3 v2 rfl rfl) h2
  obtain ⟨a3, rfl, rfl, rfl, w3⟩ := open_int Try.underlying3 (hval 3 3 v3 rfl rfl) h3
  obtain ⟨a4, rfl, rfl, rfl, w4⟩ := open_int Try.underlying3 (hval 4 3 v4 rfl rfl) h4
  refine (walk W x0_0 x0_1 x0_2 x0_3 x0_4 wx0_0 wx0_1 wx0_2 wx0_3 wx0_4 a1 w1 a2 w2 a3 w3 a4 w4).mono fun e W' ⟨he, hg⟩ => ?_
  subst he
  exact ⟨_, rfl, hk W' hg⟩

theorem over : Rows.layoutNearRow.holds Try.pinned (OpenSpec.ofChange Rows.layoutNearSpec) :=
  OpenClaim.holds_of_wide 4 Try.f4 rfl rfl rfl rfl rfl rfl rfl ⟨rfl, rfl, rfl, rfl, rfl⟩ rfl rfl rfl rfl rfl (by kernel_rfl) Try.func4 (by kernel_rfl)
    (of_decide_eq_true (by kernel_rfl)) (by unfold Func.isWrapper; first | (rw [if_pos (by decide +kernel)]; kernel_rfl) | (rw [if_neg (by decide +kernel)]; exact ⟨rfl, rfl⟩))
    (fun os started H enc _ => lifted os started H enc)

/-- The statement. -/
theorem proved : Rows.LayoutNearSaid :=
  over
#print axioms proved
end Go.Proofs.Ytaljpggppocnjaa.layoutNear
