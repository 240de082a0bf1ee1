/-
  Proved: a text of just as many bytes as the document allows is assembled, one of a byte more is refused; a line near its limit is as the reference of layer 4 says. No condition.
-/
import Derived.Test.YtlgecejaijcjgaaGreatDoorRows
import Derived.WalkKit
import Derived.ProofKit
import Derived.OpenShut
import Derived.Test.YtlgecejaijcjgaaGreatDoorFrame
import Derived.LaidMore
import Derived.Stop.Joined
import Derived.SevenTiedAt
import Derived.Lay
import Derived.Test.YtlgecejaijcjgaaGreatDoorAsmW
import Derived.Test.YtlgecejaijcjgaaGreatDoorTie
import Derived.Test.YtlgecejaijcjgaaGreatDoorCards
import Derived.Test.YtlgecejaijcjgaaGreatDoorAsmW
import Derived.Test.YtlgecejaijcjgaaGreatDoorRfD
namespace Go.Proofs.YtlgecejaijcjgaaGreatDoor.asmLimits
open Go.ChangeShapes Go.WideShapes Go.ChangeAt Go.RowKit
open LawFrame
open Go.ChangeMaps (open_string)
set_option linter.unusedVariables false

theorem own : ownKnob Tryz.prog.godebug = none := by kernel_rfl
theorem laidOut : laidOutB Tryz.prog = true := by kernel_rfl

open PlainT IsaE IsaS BlkW IsaA IsaB IsaF IsaP IsaQ IsaX IsaL AsmS AsmA AsmB AsmF DisA DisB AsmL RfD
set_option maxHeartbeats 1000000
set_option maxRecDepth 100000
theorem size_cat (a b : ByteArray) : (a ++ b).size = a.size + b.size := ByteArray.size_append

theorem readable : ∀ t ∈ Tryz.f5.params.toList, Tryz.prog.readableRec t = true ∧ t < Tryz.prog.types.size := by
  have h : (Tryz.f5.params.toList.all fun t => Tryz.prog.readableRec t && decide (t < Tryz.prog.types.size)) = true := by kernel_rfl
  intro t ht
  have := List.all_eq_true.1 h t ht
  simpa using this

/-! The walk. -/
theorem walk (w : World) (hE : AsmA.EnvM w) (a0 : Int) (w0 : (Lit.int .i64 a0).wf = true) :
    Calls Tryz.prog 5 #[.int .i64 a0] w fun e w' => e = .returned (.bool true) ∧ Kept w w' := by
  have hv := pl_in a0 3 (by omega) (by omega)
  obtain ⟨v, hpl⟩ : ∃ v, pl a0 3 = v := ⟨_, rfl⟩
  rw [hpl] at hv
  obtain ⟨q, rfl⟩ := Int.eq_ofNat_of_zero_le hv.1
  have hq : q ≤ 2 := by omega
  have HP := Lib.hid hpl
  clear hv hpl
  have hsp := rep_sp (65535 + q)
  have hspl : (Lib.repeatL [32] (65535 + q)).length = 65535 + q := by rw [Lib.repeatL_length]; simp
  have h1 : outOf (asmV (Lib.repeatL [32] (65535 + q))) = ([], 0, if q = 2 then 3 else 0) := by
    by_cases e : q = 2
    · rw [if_pos e]
      unfold asmV
      rw [if_pos (by omega)]
      rfl
    · rw [if_neg e, asm_spaces hsp (by omega)]
      rfl
  have H1 := Lib.hid h1
  obtain ⟨r, hr⟩ : ∃ r, r = Lib.repeatL [32] (197 + q) := ⟨_, rfl⟩
  have hrl : (mk r).size = 197 + q := by rw [mk_len, hr, Lib.repeatL_length]; simp
  obtain ⟨t, ht⟩ : ∃ t, (⟨#[110, 111, 112]⟩ : ByteArray) ++ mk r = t := ⟨_, rfl⟩
  have htl : t.size ≤ 300 := by rw [← ht, size_cat, hrl]; show 3 + (197 + q) ≤ 300; omega
  obtain ⟨u, hu⟩ : ∃ u, (⟨#[110, 111, 112, 10]⟩ : ByteArray) ++ t = u := ⟨_, rfl⟩
  have hul : u.size ≤ 400 := by rw [← hu, size_cat]; show 4 + t.size ≤ 400; omega
  have hLl : (mk (Lib.repeatL [32] (65535 + q))).size ≤ 70000 := by rw [mk_len]; omega
  have HR := Lib.hid hr
  obtain ⟨L, hL⟩ : ∃ L, L = Lib.repeatL [32] (65535 + q) := ⟨_, rfl⟩
  have HL := Lib.hid hL
  rw [← hL] at hLl
  clear hsp hspl h1 hr hL
  go_enter Tryz.func5, Tryz.ntmps5
  go_wp2_with (go_at_call 15; refine (k_place a0 3 _ (by omega) (by omega) HP.out _).mono ?_; rintro e wn ⟨rfl, rfl⟩)
  refine (k_repeat _ (65535 + (q : Int)) (65535 + q) (by omega) (by show 1 * (65535 + q) ≤ _; omega) (by omega) _).mono ?_
  rintro e w1 ⟨rfl, hb1⟩
  rw [show Lib.repeatL (bts ⟨#[32]⟩) (65535 + q) = L from HL.out.symm]
  have hE1 := hE.below hb1
  go_wp2_with fail
  refine (a_assemble (mk L) (by omega) _ hE1).mono ?_
  rintro e w2 h2
  obtain ⟨A, c, rfl, _, hb2⟩ := asm_out h2
  rw [bts_mk, HL.out, H1.out]
  have hE2 := hE1.below hb2
  have hb3 := below_trans2 hb1 hb2
  clear h2 hE hE1 hb1 hb2
  by_cases hq2 : q = 2
  · subst hq2
    simp only [if_pos rfl, List.length_nil]
    go_wp2_with fail
    refine (k_repeat _ _ (197 + 2) (by omega) (by show 1 * (197 + 2) ≤ _; omega) (by omega) _).mono ?_
    rintro e w3 ⟨rfl, hb4⟩
    rw [show Lib.repeatL (bts ⟨#[32]⟩) (197 + 2) = r from HR.out.symm]
    have hE3 := hE2.below hb4
    go_wp2_with fail
    refine (a_assemble u (by omega) _ hE3).mono ?_
    rintro e w4 h4
    obtain ⟨A4, c4, rfl, hR4, hb5⟩ := asm_out h4
    have hl4 := out_len (bts u)
    have hE4 := hE3.below hb5
    go_wp2_with fail
    refine (ra_assemble u (by omega) _).mono ?_
    rintro e w5 h5
    obtain ⟨A5, c5, rfl, hR5, hb6⟩ := asm_out h5
    have hR6 := hR4.below hb6
    have hE5 := hE4.below hb6
    have hb7 := below_trans2 (below_trans2 hb3 hb4) (below_trans2 hb5 hb6)
    clear h4 h5 hR4 hE2 hE3 hE4 hb3 hb4 hb5 hb6
    generalize outOf (asmV (bts u)) = R at *
    obtain ⟨ps, n, er⟩ := R
    simp only at hR5 hR6 hl4 ⊢
    go_wp2_with (first
      | (go_at_call 12; refine (k_program A4 A5 _ _ c4 c5 ps _ (by omega) hR6 hR5).mono ?_; rintro e w6 ⟨rfl, hb8⟩)
      | (go_at_call 9; refine (l_awake _ (hE5.below hb8)).mono ?_; rintro e w7 ⟨rfl, hb9⟩))
    go_ret
    exact ⟨rfl, Kept.of_below (below_trans2 hb7 (below_trans2 hb8 hb9))⟩
  · rw [if_neg hq2]
    simp only [List.length_nil]
    go_wp2_with fail
    refine (k_repeat _ _ (197 + q) (by omega) (by show 1 * (197 + q) ≤ _; omega) (by omega) _).mono ?_
    rintro e w3 ⟨rfl, hb4⟩
    rw [show Lib.repeatL (bts ⟨#[32]⟩) (197 + q) = r from HR.out.symm]
    have hE3 := hE2.below hb4
    go_wp2_with fail
    refine (a_assemble u (by omega) _ hE3).mono ?_
    rintro e w4 h4
    obtain ⟨A4, c4, rfl, hR4, hb5⟩ := asm_out h4
    have hl4 := out_len (bts u)
    have hE4 := hE3.below hb5
    go_wp2_with fail
    refine (ra_assemble u (by omega) _).mono ?_
    rintro e w5 h5
    obtain ⟨A5, c5, rfl, hR5, hb6⟩ := asm_out h5
    have hR6 := hR4.below hb6
    have hE5 := hE4.below hb6
    have hb7 := below_trans2 (below_trans2 hb3 hb4) (below_trans2 hb5 hb6)
    clear h4 h5 hR4 hE2 hE3 hE4 hb3 hb4 hb5 hb6
    generalize outOf (asmV (bts u)) = R at *
    obtain ⟨ps, n, er⟩ := R
    simp only at hR5 hR6 hl4 ⊢
    go_wp2_with (first
      | (go_at_call 12; refine (k_program A4 A5 _ _ c4 c5 ps _ (by omega) hR6 hR5).mono ?_; rintro e w6 ⟨rfl, hb8⟩)
      | (go_at_call 9; refine (l_awake _ (hE5.below hb8)).mono ?_; rintro e w7 ⟨rfl, hb9⟩))
    go_ret
    exact ⟨rfl, Kept.of_below (below_trans2 hb7 (below_trans2 hb8 hb9))⟩

/-! The heap that lays the listed variables meets the row's condition. -/
theorem laid_met (os : Os) (args : Array Value) : laidMetH Tryz.prog [("math/bits.deBruijn32tab", Rows.laid_math_bits_deBruijn32tab), ("math/bits.deBruijn64tab", Rows.laid_math_bits_deBruijn64tab), ("internal/strconv.uint64pow10", Rows.laid_internal_strconv_uint64pow10), ("unicode/utf8.acceptRanges", Rows.laid_unicode_utf8_acceptRanges), ("strconv.ErrRange", Rows.laid_strconv_ErrRange), ("strconv.ErrSyntax", Rows.laid_strconv_ErrSyntax), ("strongtx/alu.names", Rows.laid_strongtx_alu_names), ("strongtx/isa.shapes", Rows.laid_strongtx_isa_shapes), ("unicode/utf8.first", Rows.laid_unicode_utf8_first)] ((World.laidAll Tryz.prog os [("math/bits.deBruijn32tab", Rows.laid_math_bits_deBruijn32tab), ("math/bits.deBruijn64tab", Rows.laid_math_bits_deBruijn64tab), ("internal/strconv.uint64pow10", Rows.laid_internal_strconv_uint64pow10), ("unicode/utf8.acceptRanges", Rows.laid_unicode_utf8_acceptRanges), ("strconv.ErrRange", Rows.laid_strconv_ErrRange), ("strconv.ErrSyntax", Rows.laid_strconv_ErrSyntax), ("strongtx/alu.names", Rows.laid_strongtx_alu_names), ("strongtx/isa.shapes", Rows.laid_strongtx_isa_shapes), ("unicode/utf8.first", Rows.laid_unicode_utf8_first)]).forCall (fun _ _ => 0) ⟨#[], args, []⟩).memory := by
  rw [MakeChecks.laidMetH_plain _ _ _ (by kernel_rfl)]
  exact laidMet_laidAll _ (by kernel_rfl) (by kernel_rfl)

/-! The row's step. -/
set_option maxRecDepth 100000 in
theorem lifted (os : Os) (started : os.Started) (H : Type) (enc : TypeId × Value → H) :
    ReturnsInHanded {} Tryz.checked os 5 .any (fun w args => (Rows.asmLimitsSpec.pre enc Tryz.prog Tryz.f5 Rows.asmLimitsRow.domain false w args ∧ laidMetH Tryz.prog [("math/bits.deBruijn32tab", Rows.laid_math_bits_deBruijn32tab), ("math/bits.deBruijn64tab", Rows.laid_math_bits_deBruijn64tab), ("internal/strconv.uint64pow10", Rows.laid_internal_strconv_uint64pow10), ("unicode/utf8.acceptRanges", Rows.laid_unicode_utf8_acceptRanges), ("strconv.ErrRange", Rows.laid_strconv_ErrRange), ("strconv.ErrSyntax", Rows.laid_strconv_ErrSyntax), ("strongtx/alu.names", Rows.laid_strongtx_alu_names), ("strongtx/isa.shapes", Rows.laid_strongtx_isa_shapes), ("unicode/utf8.first", Rows.laid_unicode_utf8_first)] w) ∧ sizedMet enc Tryz.prog Tryz.f5 (OpenSpec.ofChange Rows.asmLimitsSpec) false w args)
      (Rows.asmLimitsSpec.post enc Tryz.prog Tryz.f5 false true false false) := by
  refine AsmW.step_listed (C := Tryz.checked) (X := fun w _ => laidMetH Tryz.prog [("math/bits.deBruijn32tab", Rows.laid_math_bits_deBruijn32tab), ("math/bits.deBruijn64tab", Rows.laid_math_bits_deBruijn64tab), ("internal/strconv.uint64pow10", Rows.laid_internal_strconv_uint64pow10), ("unicode/utf8.acceptRanges", Rows.laid_unicode_utf8_acceptRanges), ("strconv.ErrRange", Rows.laid_strconv_ErrRange), ("strconv.ErrSyntax", Rows.laid_strconv_ErrSyntax), ("strongtx/alu.names", Rows.laid_strongtx_alu_names), ("strongtx/isa.shapes", Rows.laid_strongtx_isa_shapes), ("unicode/utf8.first", Rows.laid_unicode_utf8_first)] w) (fun _ _ _ hh h => h.of_heap hh) own started (by kernel_rfl) Tryz.func5
    (ChangeSpec.witness_shaped (enc := enc) (C := Tryz.checked) (os := os) (X := fun w _ => laidMetH Tryz.prog [("math/bits.deBruijn32tab", Rows.laid_math_bits_deBruijn32tab), ("math/bits.deBruijn64tab", Rows.laid_math_bits_deBruijn64tab), ("internal/strconv.uint64pow10", Rows.laid_internal_strconv_uint64pow10), ("unicode/utf8.acceptRanges", Rows.laid_unicode_utf8_acceptRanges), ("strconv.ErrRange", Rows.laid_strconv_ErrRange), ("strconv.ErrSyntax", Rows.laid_strconv_ErrSyntax), ("strongtx/alu.names", Rows.laid_strongtx_alu_names), ("strongtx/isa.shapes", Rows.laid_strongtx_isa_shapes), ("unicode/utf8.first", Rows.laid_unicode_utf8_first)] w) false (World.laidAll Tryz.prog os [("math/bits.deBruijn32tab", Rows.laid_math_bits_deBruijn32tab), ("math/bits.deBruijn64tab", Rows.laid_math_bits_deBruijn64tab), ("internal/strconv.uint64pow10", Rows.laid_internal_strconv_uint64pow10), ("unicode/utf8.acceptRanges", Rows.laid_unicode_utf8_acceptRanges), ("strconv.ErrRange", Rows.laid_strconv_ErrRange), ("strconv.ErrSyntax", Rows.laid_strconv_ErrSyntax), ("strongtx/alu.names", Rows.laid_strongtx_alu_names), ("strongtx/isa.shapes", Rows.laid_strongtx_isa_shapes), ("unicode/utf8.first", Rows.laid_unicode_utf8_first)]) #[.int .i64 0] 8 (World.laidAll_os _ _ _) (World.shaped_of_ZipB (by kernel_rfl) (by kernel_rfl)) (by kernel_rfl) (by kernel_rfl) (by kernel_rfl) (laid_met os _)) ?_
  intro W base args ds gs before hval0 hW hL hSh
  have hval : ∀ (j : Nat) t v, Tryz.f5.params[j]? = some t → args[j]? = some v → Value.okWide Tryz.prog W .any base t v := hval0
  have hW' := hW
  obtain ⟨p, q, hA0, hV, rfl, hfz, hnd⟩ := hW
  have hA : DataW.TrodAll enc Tryz.prog W 0 (fun _ => true) true Tryz.f5.params.toList args.toList ds p := hA0
  rw [Tryz.params5] at hA hval
  obtain ⟨v0, vs0, d0, ds0, p0, q0, hargs, rfl, rfl, h0, r0⟩ := trodAll_cons hA
  obtain ⟨rfl, rfl, rfl⟩ := trodAll_nil r0
  obtain rfl : args = #[v0] := by cases args; simp_all
  obtain ⟨rfl, rfl⟩ := trodVars_none hV
  have hk : ∀ W', Kept W W' → Rows.asmLimitsSpec.post enc Tryz.prog Tryz.f5 false true false false W #[v0] (.bool true) W' := fun W' hb =>
    post_law laidOut readable rfl Tryz.underlying4 rfl hW' rfl hb
  clear hA0 hval0 hA hW'
  obtain ⟨a0, rfl, rfl, rfl, w0⟩ := open_int Tryz.underlying3 (hval 0 3 v0 rfl rfl) h0
  refine (walk W (AsmW.envm_of hL hSh) a0 w0).mono fun e W' ⟨he, hg⟩ => ?_
  subst he
  exact ⟨_, rfl, hk W' hg⟩

theorem over : Rows.asmLimitsRow.holds Tryz.pinned (OpenSpec.ofChange Rows.asmLimitsSpec) :=
  OpenClaim.holds_of_wide 5 Tryz.f5 rfl rfl rfl rfl rfl rfl rfl ⟨rfl, rfl, rfl, rfl, rfl⟩ rfl rfl rfl rfl rfl (by kernel_rfl) Tryz.func5 (by kernel_rfl)
    (of_decide_eq_true (by kernel_rfl)) (by unfold Func.isWrapper; first | (rw [if_pos (by decide +kernel)]; kernel_rfl) | (rw [if_neg (by decide +kernel)]; exact ⟨rfl, rfl⟩))
    (fun os started H enc _ => lifted os started H enc)

/-- The row. -/
theorem row : Rows.AsmLimitsSaid :=
  over

/-- The statement: the tied card. -/
theorem proved : Rows.AsmLimitsCardSaid :=
  Claim7.holds_tied_plain_at .later [] [.data, .data, .data, .data, .sentinel, .sentinel, .data, .data, .pinned] true (true, "0b5e89ded5057bf827e44370c4a7c61ff6486c77cf7c8c3aca61ad678f180be9") true
    row (fun _ h => by cases h) (by kernel_rfl) (fun _ h => by cases h) asmLimits_row_tie rfl ⟨rfl, rfl⟩ (by kernel_rfl) rfl
    (fun f fn hf hfn => by
      obtain rfl : f = 5 := Option.some.inj ((show Tryz.prog.funcNamed "strongtx/strongtxlaw04.AsmLimits" = some 5 by kernel_rfl).symm.trans hf) |>.symm
      obtain rfl : fn = Tryz.f5 := (Option.some.inj (Tryz.func5.symm.trans hfn)).symm
      exact ⟨by kernel_rfl, fun j t ht => by
        rw [Tryz.params5] at ht
        have hm : t ∈ [3] := by simpa using Array.mem_of_getElem? ht
        have hall : ([3].all fun u => !Tryz.prog.wantsStandIn u) = true := by kernel_rfl
        exact (show Tryz.prog.wantsStandIn t = false by simpa using List.all_eq_true.1 hall t hm)⟩)
    (by kernel_rfl)
#print axioms proved
end Go.Proofs.YtlgecejaijcjgaaGreatDoor.asmLimits
