/-
  Proved: for every text, Assemble returns the program, the line and the error of the document (as the reference of layer 4 gives them). No condition.
-/
import Derived.Test.YtlgecejaijcjgaaGreatDoorRows
import Derived.WalkKit
import Derived.ProofKit
import Derived.OpenShut
import Derived.Test.YtlgecejaijcjgaaGreatDoorFrame
import Derived.LaidMore
import Derived.Stop.Joined
import Derived.SevenTiedAt
import Derived.Lay
import Derived.Test.YtlgecejaijcjgaaGreatDoorAsmW
import Derived.Test.YtlgecejaijcjgaaGreatDoorTie
import Derived.Test.YtlgecejaijcjgaaGreatDoorCards
import Derived.Test.YtlgecejaijcjgaaGreatDoorAsmW
import Derived.Test.YtlgecejaijcjgaaGreatDoorRfD
namespace Go.Proofs.YtlgecejaijcjgaaGreatDoor.asmAny
open Go.ChangeShapes Go.WideShapes Go.ChangeAt Go.RowKit
open LawFrame
open Go.ChangeMaps (open_string)
set_option linter.unusedVariables false

theorem own : ownKnob Tryz.prog.godebug = none := by kernel_rfl
theorem laidOut : laidOutB Tryz.prog = true := by kernel_rfl

open PlainT IsaE IsaS BlkW IsaA IsaB IsaF IsaP IsaQ IsaX IsaL AsmS AsmA AsmF DisB AsmL RfD
set_option maxHeartbeats 1000000
set_option maxRecDepth 100000

theorem readable : ∀ t ∈ Tryz.f3.params.toList, Tryz.prog.readableRec t = true ∧ t < Tryz.prog.types.size := by
  have h : (Tryz.f3.params.toList.all fun t => Tryz.prog.readableRec t && decide (t < Tryz.prog.types.size)) = true := by kernel_rfl
  intro t ht
  have := List.all_eq_true.1 h t ht
  simpa using this

/-! The walk. -/
theorem walk (w : World) (hE : AsmA.EnvM w) (a0 : ByteArray) (m0 : a0.size ≤ maxLen) :
    Calls Tryz.prog 3 #[.string a0] w fun e w' => e = .returned (.bool true) ∧ Kept w w' := by
  by_cases h2000 : 2000 < a0.size
  · go_enter Tryz.func3, Tryz.ntmps3
    go_wp2_with (go_at_call 9; refine (l_awake _ hE).mono ?_; rintro e w1 ⟨rfl, hb⟩)
    go_ret
    exact ⟨rfl, Kept.of_below hb⟩
  · go_enter Tryz.func3, Tryz.ntmps3
    go_wp2_with fail
    refine (a_assemble a0 (by unfold maxLen at m0; omega) _ hE).mono ?_
    rintro e w1 ⟨hb1, h1⟩
    have hE1 := hE.below hb1
    cases hr : asmV (bts a0) with
    | ok ps =>
      rw [hr] at h1
      obtain ⟨A, c, rfl, hc, hR⟩ := h1
      go_wp2_with fail
      refine (ra_assemble a0 (by unfold maxLen at m0; omega) _).mono ?_
      rintro e w2 ⟨hb2, h2⟩
      rw [hr] at h2
      obtain ⟨A2, c2, rfl, hc2, hR2⟩ := h2
      have hRo := (RowP.of_ins hR).below hb2
      have hR3 := RowP.of_ins hR2
      have hcm := asm_len hr
      have hE2 := hE1.below hb2
      have hb3 := below_trans2 hb1 hb2
      clear hR hR2 hr hb1 hb2 hE hE1
      go_wp2_with (first
        | (go_at_call 12; refine (k_program A A2 _ _ c c2 ps _ (by omega) hRo hR3).mono ?_; rintro e w3 ⟨rfl, hb4⟩)
        | (go_at_call 9; refine (l_awake _ (hE2.below hb4)).mono ?_; rintro e w4 ⟨rfl, hb5⟩))
      go_ret
      exact ⟨rfl, Kept.of_below (below_trans2 hb3 (below_trans2 hb4 hb5))⟩
    | err n er =>
      rw [hr] at h1
      obtain ⟨h0, rfl⟩ := h1
      go_wp2_with fail
      refine (ra_assemble a0 (by unfold maxLen at m0; omega) _).mono ?_
      rintro e w2 ⟨hb2, h2⟩
      rw [hr] at h2
      obtain ⟨_, rfl⟩ := h2
      have hE2 := hE1.below hb2
      have hb3 := below_trans2 hb1 hb2
      clear hr hb1 hb2 hE hE1
      go_wp2_with (first
        | (go_at_call 12; refine (k_program none none 0 0 0 0 [] _ (by omega) ⟨rfl, fun h => absurd h (by omega)⟩ ⟨rfl, fun h => absurd h (by omega)⟩).mono ?_; rintro e w3 ⟨rfl, hb4⟩)
        | (go_at_call 9; refine (l_awake _ (hE2.below hb4)).mono ?_; rintro e w4 ⟨rfl, hb5⟩))
      go_ret
      exact ⟨rfl, Kept.of_below (below_trans2 hb3 (below_trans2 hb4 hb5))⟩

/-! The heap that lays the listed variables meets the row's condition. -/
theorem laid_met (os : Os) (args : Array Value) : laidMetH Tryz.prog [("math/bits.deBruijn32tab", Rows.laid_math_bits_deBruijn32tab), ("math/bits.deBruijn64tab", Rows.laid_math_bits_deBruijn64tab), ("internal/strconv.uint64pow10", Rows.laid_internal_strconv_uint64pow10), ("unicode/utf8.acceptRanges", Rows.laid_unicode_utf8_acceptRanges), ("strconv.ErrRange", Rows.laid_strconv_ErrRange), ("strconv.ErrSyntax", Rows.laid_strconv_ErrSyntax), ("strongtx/alu.names", Rows.laid_strongtx_alu_names), ("strongtx/isa.shapes", Rows.laid_strongtx_isa_shapes), ("unicode/utf8.first", Rows.laid_unicode_utf8_first)] ((World.laidAll Tryz.prog os [("math/bits.deBruijn32tab", Rows.laid_math_bits_deBruijn32tab), ("math/bits.deBruijn64tab", Rows.laid_math_bits_deBruijn64tab), ("internal/strconv.uint64pow10", Rows.laid_internal_strconv_uint64pow10), ("unicode/utf8.acceptRanges", Rows.laid_unicode_utf8_acceptRanges), ("strconv.ErrRange", Rows.laid_strconv_ErrRange), ("strconv.ErrSyntax", Rows.laid_strconv_ErrSyntax), ("strongtx/alu.names", Rows.laid_strongtx_alu_names), ("strongtx/isa.shapes", Rows.laid_strongtx_isa_shapes), ("unicode/utf8.first", Rows.laid_unicode_utf8_first)]).forCall (fun _ _ => 0) ⟨#[], args, []⟩).memory := by
  rw [MakeChecks.laidMetH_plain _ _ _ (by kernel_rfl)]
  exact laidMet_laidAll _ (by kernel_rfl) (by kernel_rfl)

/-! The row's step. -/
set_option maxRecDepth 100000 in
theorem lifted (os : Os) (started : os.Started) (H : Type) (enc : TypeId × Value → H) :
    ReturnsInHanded {} Tryz.checked os 3 .any (fun w args => (Rows.asmAnySpec.pre enc Tryz.prog Tryz.f3 Rows.asmAnyRow.domain false w args ∧ laidMetH Tryz.prog [("math/bits.deBruijn32tab", Rows.laid_math_bits_deBruijn32tab), ("math/bits.deBruijn64tab", Rows.laid_math_bits_deBruijn64tab), ("internal/strconv.uint64pow10", Rows.laid_internal_strconv_uint64pow10), ("unicode/utf8.acceptRanges", Rows.laid_unicode_utf8_acceptRanges), ("strconv.ErrRange", Rows.laid_strconv_ErrRange), ("strconv.ErrSyntax", Rows.laid_strconv_ErrSyntax), ("strongtx/alu.names", Rows.laid_strongtx_alu_names), ("strongtx/isa.shapes", Rows.laid_strongtx_isa_shapes), ("unicode/utf8.first", Rows.laid_unicode_utf8_first)] w) ∧ sizedMet enc Tryz.prog Tryz.f3 (OpenSpec.ofChange Rows.asmAnySpec) false w args)
      (Rows.asmAnySpec.post enc Tryz.prog Tryz.f3 false true false false) := by
  refine AsmW.step_listed (C := Tryz.checked) (X := fun w _ => laidMetH Tryz.prog [("math/bits.deBruijn32tab", Rows.laid_math_bits_deBruijn32tab), ("math/bits.deBruijn64tab", Rows.laid_math_bits_deBruijn64tab), ("internal/strconv.uint64pow10", Rows.laid_internal_strconv_uint64pow10), ("unicode/utf8.acceptRanges", Rows.laid_unicode_utf8_acceptRanges), ("strconv.ErrRange", Rows.laid_strconv_ErrRange), ("strconv.ErrSyntax", Rows.laid_strconv_ErrSyntax), ("strongtx/alu.names", Rows.laid_strongtx_alu_names), ("strongtx/isa.shapes", Rows.laid_strongtx_isa_shapes), ("unicode/utf8.first", Rows.laid_unicode_utf8_first)] w) (fun _ _ _ hh h => h.of_heap hh) own started (by kernel_rfl) Tryz.func3
    (ChangeSpec.witness_shaped (enc := enc) (C := Tryz.checked) (os := os) (X := fun w _ => laidMetH Tryz.prog [("math/bits.deBruijn32tab", Rows.laid_math_bits_deBruijn32tab), ("math/bits.deBruijn64tab", Rows.laid_math_bits_deBruijn64tab), ("internal/strconv.uint64pow10", Rows.laid_internal_strconv_uint64pow10), ("unicode/utf8.acceptRanges", Rows.laid_unicode_utf8_acceptRanges), ("strconv.ErrRange", Rows.laid_strconv_ErrRange), ("strconv.ErrSyntax", Rows.laid_strconv_ErrSyntax), ("strongtx/alu.names", Rows.laid_strongtx_alu_names), ("strongtx/isa.shapes", Rows.laid_strongtx_isa_shapes), ("unicode/utf8.first", Rows.laid_unicode_utf8_first)] w) false (World.laidAll Tryz.prog os [("math/bits.deBruijn32tab", Rows.laid_math_bits_deBruijn32tab), ("math/bits.deBruijn64tab", Rows.laid_math_bits_deBruijn64tab), ("internal/strconv.uint64pow10", Rows.laid_internal_strconv_uint64pow10), ("unicode/utf8.acceptRanges", Rows.laid_unicode_utf8_acceptRanges), ("strconv.ErrRange", Rows.laid_strconv_ErrRange), ("strconv.ErrSyntax", Rows.laid_strconv_ErrSyntax), ("strongtx/alu.names", Rows.laid_strongtx_alu_names), ("strongtx/isa.shapes", Rows.laid_strongtx_isa_shapes), ("unicode/utf8.first", Rows.laid_unicode_utf8_first)]) #[.string ⟨#[]⟩] 8 (World.laidAll_os _ _ _) (World.shaped_of_ZipB (by kernel_rfl) (by kernel_rfl)) (by kernel_rfl) (by kernel_rfl) (by kernel_rfl) (laid_met os _)) ?_
  intro W base args ds gs before hval0 hW hL hSh
  have hval : ∀ (j : Nat) t v, Tryz.f3.params[j]? = some t → args[j]? = some v → Value.okWide Tryz.prog W .any base t v := hval0
  have hW' := hW
  obtain ⟨p, q, hA0, hV, rfl, hfz, hnd⟩ := hW
  have hA : DataW.TrodAll enc Tryz.prog W 0 (fun _ => true) true Tryz.f3.params.toList args.toList ds p := hA0
  rw [Tryz.params3] at hA hval
  obtain ⟨v0, vs0, d0, ds0, p0, q0, hargs, rfl, rfl, h0, r0⟩ := trodAll_cons hA
  obtain ⟨rfl, rfl, rfl⟩ := trodAll_nil r0
  obtain rfl : args = #[v0] := by cases args; simp_all
  obtain ⟨rfl, rfl⟩ := trodVars_none hV
  have hk : ∀ W', Kept W W' → Rows.asmAnySpec.post enc Tryz.prog Tryz.f3 false true false false W #[v0] (.bool true) W' := fun W' hb =>
    post_law laidOut readable rfl Tryz.underlying4 rfl hW' rfl hb
  clear hA0 hval0 hA hW'
  obtain ⟨a0, rfl, rfl, rfl, m0⟩ := open_string Tryz.underlying9 (hval 0 9 v0 rfl rfl) h0
  refine (walk W (AsmW.envm_of hL hSh) a0 m0).mono fun e W' ⟨he, hg⟩ => ?_
  subst he
  exact ⟨_, rfl, hk W' hg⟩

theorem over : Rows.asmAnyRow.holds Tryz.pinned (OpenSpec.ofChange Rows.asmAnySpec) :=
  OpenClaim.holds_of_wide 3 Tryz.f3 rfl rfl rfl rfl rfl rfl rfl ⟨rfl, rfl, rfl, rfl, rfl⟩ rfl rfl rfl rfl rfl (by kernel_rfl) Tryz.func3 (by kernel_rfl)
    (of_decide_eq_true (by kernel_rfl)) (by unfold Func.isWrapper; first | (rw [if_pos (by decide +kernel)]; kernel_rfl) | (rw [if_neg (by decide +kernel)]; exact ⟨rfl, rfl⟩))
    (fun os started H enc _ => lifted os started H enc)

/-- The row. -/
theorem row : Rows.AsmAnySaid :=
  over

/-- The statement: the tied card. -/
theorem proved : Rows.AsmAnyCardSaid :=
  Claim7.holds_tied_plain_at .later [] [.data, .data, .data, .data, .sentinel, .sentinel, .data, .data, .pinned] true (true, "0b5e89ded5057bf827e44370c4a7c61ff6486c77cf7c8c3aca61ad678f180be9") true
    row (fun _ h => by cases h) (by kernel_rfl) (fun _ h => by cases h) asmAny_row_tie rfl ⟨rfl, rfl⟩ (by kernel_rfl) rfl
    (fun f fn hf hfn => by
      obtain rfl : f = 3 := Option.some.inj ((show Tryz.prog.funcNamed "strongtx/strongtxlaw04.AsmAny" = some 3 by kernel_rfl).symm.trans hf) |>.symm
      obtain rfl : fn = Tryz.f3 := (Option.some.inj (Tryz.func3.symm.trans hfn)).symm
      exact ⟨by kernel_rfl, fun j t ht => by
        rw [Tryz.params3] at ht
        have hm : t ∈ [9] := by simpa using Array.mem_of_getElem? ht
        have hall : ([9].all fun u => !Tryz.prog.wantsStandIn u) = true := by kernel_rfl
        exact (show Tryz.prog.wantsStandIn t = false by simpa using List.all_eq_true.1 hall t hm)⟩)
    (by kernel_rfl)
#print axioms proved
end Go.Proofs.YtlgecejaijcjgaaGreatDoor.asmAny
