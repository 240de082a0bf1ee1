/-
  Proved: for every text put together of lines with labels and jumps, Assemble returns the program, the line and the error of the document, also behind many more lines. No condition.
-/
import Derived.Test.YtlgecejaijcjgaaGreatDoorRows
import Derived.WalkKit
import Derived.ProofKit
import Derived.OpenShut
import Derived.Test.YtlgecejaijcjgaaGreatDoorFrame
import Derived.LaidMore
import Derived.Stop.Joined
import Derived.SevenTiedAt
import Derived.Lay
import Derived.Test.YtlgecejaijcjgaaGreatDoorAsmW
import Derived.Test.YtlgecejaijcjgaaGreatDoorTie
import Derived.Test.YtlgecejaijcjgaaGreatDoorCards
import Derived.Test.YtlgecejaijcjgaaGreatDoorAsmW
import Derived.Test.YtlgecejaijcjgaaGreatDoorAsmX
import Derived.Test.YtlgecejaijcjgaaGreatDoorRfD
namespace Go.Proofs.YtlgecejaijcjgaaGreatDoor.asmTexts
open Go.ChangeShapes Go.WideShapes Go.ChangeAt Go.RowKit
open LawFrame
open Go.ChangeMaps (open_string)
set_option linter.unusedVariables false

theorem own : ownKnob Tryz.prog.godebug = none := by kernel_rfl
theorem laidOut : laidOutB Tryz.prog = true := by kernel_rfl
theorem cells3 : Tryz.prog.cellsOf 3 = 1 := by kernel_rfl

open PlainT IsaE IsaS BlkW IsaA IsaB IsaF IsaP IsaQ IsaX IsaL AsmS AsmA AsmB AsmF DisA DisB AsmL AsmX RfD
set_option maxHeartbeats 1000000
set_option maxRecDepth 100000

theorem readable : ∀ t ∈ Tryz.f4.params.toList, Tryz.prog.readableRec t = true ∧ t < Tryz.prog.types.size := by
  have h : (Tryz.f4.params.toList.all fun t => Tryz.prog.readableRec t && decide (t < Tryz.prog.types.size)) = true := by kernel_rfl
  intro t ht
  have := List.all_eq_true.1 h t ht
  simpa using this

/-! The walk. -/
theorem walk (w : World) (hE : AsmA.EnvM w) (A0 : Option Addr) (n0 c0 : Nat) (z0 : List Int) (l0 : n0 ≤ c0) (m0 : c0 ≤ maxLen) (s0 : Ints .i64 w A0 n0 z0) (a1 : Int) (w1 : (Lit.int .i64 a1).wf = true) :
    Calls Tryz.prog 4 #[.slice A0 n0 c0, .int .i64 a1] w fun e w' => e = .returned (.bool true) ∧ Kept w w' := by
  by_cases h40 : 40 < n0
  · unfold maxLen at m0
    go_enter Tryz.func4, Tryz.ntmps4
    go_wp2_with (go_at_call 9; refine (l_awake _ hE).mono ?_; rintro e w1 ⟨rfl, hb⟩)
    go_ret
    exact ⟨rfl, Kept.of_below hb⟩
  · unfold maxLen at m0
    have hv := pl_in a1 80 (by omega) (by omega)
    obtain ⟨v, hpl⟩ : ∃ v, pl a1 80 = v := ⟨_, rfl⟩
    rw [hpl] at hv
    obtain ⟨q, rfl⟩ := Int.eq_ofNat_of_zero_le hv.1
    have hq : q < 80 := by omega
    have HP := Lib.hid hpl
    clear hv hpl
    go_enter Tryz.func4, Tryz.ntmps4
    go_wp2_with fail
    refine (k_text A0 n0 c0 z0 (by omega) w s0).mono ?_
    rintro e w1 ⟨⟨s, rfl, hs⟩, hb1⟩
    have hs2 : s.size ≤ 800 := by omega
    go_wp2_with fail
    refine (k_place a1 80 _ (by omega) (by omega) HP.out _).mono ?_
    rintro e wn ⟨rfl, rfl⟩
    go_wp2_with fail
    refine (k_repeat _ (q : Int) q rfl (by show 4 * q ≤ _; omega) (by omega) _).mono ?_
    rintro e w2 ⟨rfl, hb2⟩
    obtain ⟨r, hr⟩ : ∃ r, mk (Lib.repeatL (bts ⟨#[110, 111, 112, 10]⟩) q) = r := ⟨_, rfl⟩
    have hrl : r.size ≤ 400 := by rw [← hr, mk_len, Lib.repeatL_length]; show q * 4 ≤ 400; omega
    rw [hr]
    obtain ⟨u, hu⟩ : ∃ u, s ++ r = u := ⟨_, rfl⟩
    have hul : u.size ≤ 1200 := by rw [← hu, ByteArray.size_append]; omega
    have hE2 := (hE.below hb1).below hb2
    have hb12 := below_trans2 hb1 hb2
    clear hs hr hb1 hb2 hE s0
    go_wp2_with fail
    refine (a_assemble s (by omega) _ hE2).mono ?_
    rintro e w3 h3
    obtain ⟨A3, c3, rfl, hR3, hb3⟩ := asm_out h3
    have hl3 := out_len (bts s)
    have hE3 := hE2.below hb3
    go_wp2_with fail
    refine (ra_assemble s (by omega) _).mono ?_
    rintro e w4 h4
    obtain ⟨A4, c4, rfl, hR4, hb4⟩ := asm_out h4
    have hR34 := hR3.below hb4
    have hE4 := hE3.below hb4
    have hb14 := below_trans2 (below_trans2 hb12 hb3) hb4
    clear h3 h4 hR3 hE2 hE3 hb12 hb3 hb4
    generalize outOf (asmV (bts s)) = R at *
    obtain ⟨ps, n, er⟩ := R
    simp only at hR34 hR4 hl3 ⊢
    go_wp2_with fail
    refine (a_assemble u (by omega) _ hE4).mono ?_
    rintro e w5 h5
    obtain ⟨A5, c5, rfl, hR5, hb5⟩ := asm_out h5
    have hl5 := out_len (bts u)
    have hE5 := hE4.below hb5
    go_wp2_with fail
    refine (ra_assemble u (by omega) _).mono ?_
    rintro e w6 h6
    obtain ⟨A6, c6, rfl, hR6, hb6⟩ := asm_out h6
    have hb56 := below_trans2 hb5 hb6
    have hR56 := hR5.below hb6
    have hE6 := hE5.below hb6
    have hR36 := hR34.below hb56
    have hR46 := hR4.below hb56
    have hb16 := below_trans2 hb14 hb56
    clear h5 h6 hR5 hR34 hR4 hE4 hE5 hb14 hb5 hb6 hb56
    generalize outOf (asmV (bts u)) = R at *
    obtain ⟨qs, m, fr⟩ := R
    simp only at hR56 hR6 hl5 ⊢
    go_wp2_with fail
    refine (k_program A3 A4 _ _ c3 c4 ps _ (by omega) hR36 hR46).mono ?_
    rintro e w7 ⟨rfl, hb7⟩
    have hE7 := hE6.below hb7
    have hR57 := hR56.below hb7
    have hR67 := hR6.below hb7
    have hb17 := below_trans2 hb16 hb7
    clear hR36 hR46 hR56 hR6 hE6 hb16 hb7
    go_wp2_with fail
    refine (k_program A5 A6 _ _ c5 c6 qs _ (by omega) hR57 hR67).mono ?_
    rintro e w8 ⟨rfl, hb8⟩
    have hE8 := hE7.below hb8
    have hb18 := below_trans2 hb17 hb8
    clear hR57 hR67 hE7 hb17 hb8
    go_wp2_with fail
    refine (l_awake _ hE8).mono ?_
    rintro e w9 ⟨rfl, hb9⟩
    go_wp2
    go_ret
    exact ⟨rfl, Kept.of_below (below_trans2 hb18 hb9)⟩

/-! The heap that lays the listed variables meets the row's condition. -/
theorem laid_met (os : Os) (args : Array Value) : laidMetH Tryz.prog [("math/bits.deBruijn32tab", Rows.laid_math_bits_deBruijn32tab), ("math/bits.deBruijn64tab", Rows.laid_math_bits_deBruijn64tab), ("internal/strconv.uint64pow10", Rows.laid_internal_strconv_uint64pow10), ("unicode/utf8.acceptRanges", Rows.laid_unicode_utf8_acceptRanges), ("strconv.ErrRange", Rows.laid_strconv_ErrRange), ("strconv.ErrSyntax", Rows.laid_strconv_ErrSyntax), ("strongtx/alu.names", Rows.laid_strongtx_alu_names), ("strongtx/isa.shapes", Rows.laid_strongtx_isa_shapes), ("unicode/utf8.first", Rows.laid_unicode_utf8_first)] ((World.laidAll Tryz.prog os [("math/bits.deBruijn32tab", Rows.laid_math_bits_deBruijn32tab), ("math/bits.deBruijn64tab", Rows.laid_math_bits_deBruijn64tab), ("internal/strconv.uint64pow10", Rows.laid_internal_strconv_uint64pow10), ("unicode/utf8.acceptRanges", Rows.laid_unicode_utf8_acceptRanges), ("strconv.ErrRange", Rows.laid_strconv_ErrRange), ("strconv.ErrSyntax", Rows.laid_strconv_ErrSyntax), ("strongtx/alu.names", Rows.laid_strongtx_alu_names), ("strongtx/isa.shapes", Rows.laid_strongtx_isa_shapes), ("unicode/utf8.first", Rows.laid_unicode_utf8_first)]).forCall (fun _ _ => 0) ⟨#[], args, []⟩).memory := by
  rw [MakeChecks.laidMetH_plain _ _ _ (by kernel_rfl)]
  exact laidMet_laidAll _ (by kernel_rfl) (by kernel_rfl)

/-! The row's step. -/
set_option maxRecDepth 100000 in
theorem lifted (os : Os) (started : os.Started) (H : Type) (enc : TypeId × Value → H) :
    ReturnsInHanded {} Tryz.checked os 4 .any (fun w args => (Rows.asmTextsSpec.pre enc Tryz.prog Tryz.f4 Rows.asmTextsRow.domain false w args ∧ laidMetH Tryz.prog [("math/bits.deBruijn32tab", Rows.laid_math_bits_deBruijn32tab), ("math/bits.deBruijn64tab", Rows.laid_math_bits_deBruijn64tab), ("internal/strconv.uint64pow10", Rows.laid_internal_strconv_uint64pow10), ("unicode/utf8.acceptRanges", Rows.laid_unicode_utf8_acceptRanges), ("strconv.ErrRange", Rows.laid_strconv_ErrRange), ("strconv.ErrSyntax", Rows.laid_strconv_ErrSyntax), ("strongtx/alu.names", Rows.laid_strongtx_alu_names), ("strongtx/isa.shapes", Rows.laid_strongtx_isa_shapes), ("unicode/utf8.first", Rows.laid_unicode_utf8_first)] w) ∧ sizedMet enc Tryz.prog Tryz.f4 (OpenSpec.ofChange Rows.asmTextsSpec) false w args)
      (Rows.asmTextsSpec.post enc Tryz.prog Tryz.f4 false true false false) := by
  refine AsmW.step_listed (C := Tryz.checked) (X := fun w _ => laidMetH Tryz.prog [("math/bits.deBruijn32tab", Rows.laid_math_bits_deBruijn32tab), ("math/bits.deBruijn64tab", Rows.laid_math_bits_deBruijn64tab), ("internal/strconv.uint64pow10", Rows.laid_internal_strconv_uint64pow10), ("unicode/utf8.acceptRanges", Rows.laid_unicode_utf8_acceptRanges), ("strconv.ErrRange", Rows.laid_strconv_ErrRange), ("strconv.ErrSyntax", Rows.laid_strconv_ErrSyntax), ("strongtx/alu.names", Rows.laid_strongtx_alu_names), ("strongtx/isa.shapes", Rows.laid_strongtx_isa_shapes), ("unicode/utf8.first", Rows.laid_unicode_utf8_first)] w) (fun _ _ _ hh h => h.of_heap hh) own started (by kernel_rfl) Tryz.func4
    (ChangeSpec.witness_shaped (enc := enc) (C := Tryz.checked) (os := os) (X := fun w _ => laidMetH Tryz.prog [("math/bits.deBruijn32tab", Rows.laid_math_bits_deBruijn32tab), ("math/bits.deBruijn64tab", Rows.laid_math_bits_deBruijn64tab), ("internal/strconv.uint64pow10", Rows.laid_internal_strconv_uint64pow10), ("unicode/utf8.acceptRanges", Rows.laid_unicode_utf8_acceptRanges), ("strconv.ErrRange", Rows.laid_strconv_ErrRange), ("strconv.ErrSyntax", Rows.laid_strconv_ErrSyntax), ("strongtx/alu.names", Rows.laid_strongtx_alu_names), ("strongtx/isa.shapes", Rows.laid_strongtx_isa_shapes), ("unicode/utf8.first", Rows.laid_unicode_utf8_first)] w) false (World.laidAll Tryz.prog os [("math/bits.deBruijn32tab", Rows.laid_math_bits_deBruijn32tab), ("math/bits.deBruijn64tab", Rows.laid_math_bits_deBruijn64tab), ("internal/strconv.uint64pow10", Rows.laid_internal_strconv_uint64pow10), ("unicode/utf8.acceptRanges", Rows.laid_unicode_utf8_acceptRanges), ("strconv.ErrRange", Rows.laid_strconv_ErrRange), ("strconv.ErrSyntax", Rows.laid_strconv_ErrSyntax), ("strongtx/alu.names", Rows.laid_strongtx_alu_names), ("strongtx/isa.shapes", Rows.laid_strongtx_isa_shapes), ("unicode/utf8.first", Rows.laid_unicode_utf8_first)]) #[.slice none 0 0, .int .i64 0] 8 (World.laidAll_os _ _ _) (World.shaped_of_ZipB (by kernel_rfl) (by kernel_rfl)) (by kernel_rfl) (by kernel_rfl) (by kernel_rfl) (laid_met os _)) ?_
  intro W base args ds gs before hval0 hW hL hSh
  have hval : ∀ (j : Nat) t v, Tryz.f4.params[j]? = some t → args[j]? = some v → Value.okWide Tryz.prog W .any base t v := hval0
  have hW' := hW
  obtain ⟨p, q, hA0, hV, rfl, hfz, hnd⟩ := hW
  have hA : DataW.TrodAll enc Tryz.prog W 0 (fun _ => true) true Tryz.f4.params.toList args.toList ds p := hA0
  rw [Tryz.params4] at hA hval
  obtain ⟨v0, vs0, d0, ds0, p0, q0, hargs, rfl, rfl, h0, r0⟩ := trodAll_cons hA
  obtain ⟨v1, vs1, d1, ds1, p1, q1, rfl, rfl, rfl, h1, r1⟩ := trodAll_cons r0
  obtain ⟨rfl, rfl, rfl⟩ := trodAll_nil r1
  obtain rfl : args = #[v0, v1] := by cases args; simp_all
  obtain ⟨rfl, rfl⟩ := trodVars_none hV
  have hk : ∀ W', Kept W W' → Rows.asmTextsSpec.post enc Tryz.prog Tryz.f4 false true false false W #[v0, v1] (.bool true) W' := fun W' hb =>
    post_law laidOut readable rfl Tryz.underlying4 rfl hW' rfl hb
  clear hA0 hval0 hA hW'
  obtain ⟨A0, n0, c0, z0, rfl, l0, m0, s0⟩ := open_slice Tryz.underlying29 Tryz.underlying3 cells3 (hval 0 29 v0 rfl rfl) h0
  obtain ⟨a1, rfl, rfl, rfl, w1⟩ := open_int Tryz.underlying3 (hval 1 3 v1 rfl rfl) h1
  refine (walk W (AsmW.envm_of hL hSh) A0 n0 c0 z0 l0 m0 s0 a1 w1).mono fun e W' ⟨he, hg⟩ => ?_
  subst he
  exact ⟨_, rfl, hk W' hg⟩

theorem over : Rows.asmTextsRow.holds Tryz.pinned (OpenSpec.ofChange Rows.asmTextsSpec) :=
  OpenClaim.holds_of_wide 4 Tryz.f4 rfl rfl rfl rfl rfl rfl rfl ⟨rfl, rfl, rfl, rfl, rfl⟩ rfl rfl rfl rfl rfl (by kernel_rfl) Tryz.func4 (by kernel_rfl)
    (of_decide_eq_true (by kernel_rfl)) (by unfold Func.isWrapper; first | (rw [if_pos (by decide +kernel)]; kernel_rfl) | (rw [if_neg (by decide +kernel)]; exact ⟨rfl, rfl⟩))
    (fun os started H enc _ => lifted os started H enc)

/-- The row. -/
theorem row : Rows.AsmTextsSaid :=
  over

/-- The statement: the tied card. -/
theorem proved : Rows.AsmTextsCardSaid :=
  Claim7.holds_tied_plain_at .later [] [.data, .data, .data, .data, .sentinel, .sentinel, .data, .data, .pinned] true (true, "0b5e89ded5057bf827e44370c4a7c61ff6486c77cf7c8c3aca61ad678f180be9") true
    row (fun _ h => by cases h) (by kernel_rfl) (fun _ h => by cases h) asmTexts_row_tie rfl ⟨rfl, rfl⟩ (by kernel_rfl) rfl
    (fun f fn hf hfn => by
      obtain rfl : f = 4 := Option.some.inj ((show Tryz.prog.funcNamed "strongtx/strongtxlaw04.AsmTexts" = some 4 by kernel_rfl).symm.trans hf) |>.symm
      obtain rfl : fn = Tryz.f4 := (Option.some.inj (Tryz.func4.symm.trans hfn)).symm
      exact ⟨by kernel_rfl, fun j t ht => by
        rw [Tryz.params4] at ht
        have hm : t ∈ [29, 3] := by simpa using Array.mem_of_getElem? ht
        have hall : ([29, 3].all fun u => !Tryz.prog.wantsStandIn u) = true := by kernel_rfl
        exact (show Tryz.prog.wantsStandIn t = false by simpa using List.all_eq_true.1 hall t hm)⟩)
    (by kernel_rfl)
#print axioms proved
end Go.Proofs.YtlgecejaijcjgaaGreatDoor.asmTexts
