/-
  Proved: comments, empty lines and spaces at the ends of lines change nothing. No condition.
-/
import Derived.Test.YtcplhochgngedaaGreatDoorRows
import Derived.WalkKit
import Derived.ProofKit
import Derived.OpenShut
import Derived.Test.YtcplhochgngedaaGreatDoorFrame
import Derived.LaidMore
import Derived.Stop.Joined
import Derived.SevenTiedAt
import Derived.Lay
import Derived.Test.YtcplhochgngedaaGreatDoorAsmW
import Derived.Test.YtcplhochgngedaaGreatDoorTie
import Derived.Test.YtcplhochgngedaaGreatDoorCards
import Derived.Test.YtcplhochgngedaaGreatDoorAsmW
import Derived.Test.YtcplhochgngedaaGreatDoorAsmL
import Derived.Test.YtcplhochgngedaaGreatDoorAsmQ
import Derived.Test.YtcplhochgngedaaGreatDoorAsmV
import Derived.Test.YtcplhochgngedaaGreatDoorRfA
namespace Go.Proofs.YtcplhochgngedaaGreatDoor.asmComments
open Go.ChangeShapes Go.WideShapes Go.ChangeAt Go.RowKit
open LawFrame
open Go.ChangeMaps (open_string)
set_option linter.unusedVariables false

theorem own : ownKnob Tryz.prog.godebug = none := by kernel_rfl
theorem laidOut : laidOutB Tryz.prog = true := by kernel_rfl
theorem cells3 : Tryz.prog.cellsOf 3 = 1 := by kernel_rfl

open PlainT IsaE IsaS BlkW IsaA IsaB IsaF IsaQ IsaL AsmS AsmT AsmA AsmB AsmC AsmE AsmF DisA DisB DisC AsmL AsmQ AsmV RfA
set_option maxHeartbeats 4000000
set_option maxRecDepth 100000
theorem str_app (a b : List UInt8) : mk a ++ mk b = mk (a ++ b) := DisA.mk_append a b
theorem str1 : (⟨#[32]⟩ : ByteArray) = mk [32] := rfl
theorem str2 : (⟨#[32, 32, 35, 32, 110, 111, 112, 58, 32, 55, 10]⟩ : ByteArray) = mk (tail1 ++ [10]) := rfl
theorem str3 : (⟨#[32, 32, 32, 10, 35, 10]⟩ : ByteArray) = mk [32, 32, 32, 10, 35, 10] := rfl

theorem readable : ∀ t ∈ Tryz.f7.params.toList, Tryz.prog.readableRec t = true ∧ t < Tryz.prog.types.size := by
  have h : (Tryz.f7.params.toList.all fun t => Tryz.prog.readableRec t && decide (t < Tryz.prog.types.size)) = true := by kernel_rfl
  intro t ht
  have := List.all_eq_true.1 h t ht
  simpa using this

/-! The walk. -/
theorem walk (w : World) (hE : AsmA.EnvM w) (A0 : Option Addr) (n0 c0 : Nat) (z0 : List Int) (l0 : n0 ≤ c0) (m0 : c0 ≤ maxLen) (s0 : Ints .i64 w A0 n0 z0) (a1 : Int) (w1 : (Lit.int .i64 a1).wf = true) :
    Calls Tryz.prog 7 #[.slice A0 n0 c0, .int .i64 a1] w fun e w' => e = .returned (.bool true) ∧ Kept w w' := by
  have HZ0 := Lib.hid s0
  have HE := Lib.hid hE
  clear s0
  go_enter Tryz.func7, Tryz.ntmps7
  by_cases hbig : (40 : Int) < n0
  · go_wp2_with fail
    refine (AsmL.l_awake _ hE).mono ?_
    rintro e w3 ⟨rfl, hb1⟩
    have HB1 := Lib.hid hb1
    clear hb1
    go_wp2
    go_ret
    exact ⟨rfl, .of_below HB1.out⟩
  · have hn : (n0 : Int) ≤ 40 := by omega
    clear hbig
    obtain ⟨t, ht⟩ : ∃ t, pl a1 3 = t := ⟨_, rfl⟩
    have hin := pl_in a1 3 (by decide) (by decide)
    rw [ht] at hin
    have hpl := IsaL.k_place a1 3 t (by decide) (by decide) ht
    obtain ⟨t, rfl⟩ := Int.eq_ofNat_of_zero_le hin.1
    have ht2 : t ≤ 2 := by omega
    have hkp := PrgY.k_program A0 n0 c0 z0 30 true true w l0 m0 (by decide) (by decide) HZ0.out
    rw [show ((30 : Nat) : Int) = 30 from rfl] at hkp
    clear ht
    go_upto_region 4 with (go_at_call 17; refine hkp.mono ?_; rintro e w1 ⟨A, c, ps, rfl, hgood, hb1⟩)
    obtain ⟨hO0, hlen, hchk, hok⟩ := made_in hgood
    obtain ⟨qs, hqs⟩ : ∃ qs, ps.map toIn = qs := ⟨_, rfl⟩
    rw [hqs] at hO0 hchk hok
    obtain ⟨n, hnn⟩ : ∃ n, ps.length = n := ⟨_, rfl⟩
    rw [hnn] at hO0 hlen
    first | rw [hnn] | skip
    obtain ⟨hnc, hcm⟩ := hO0.cap
    have hql : qs.length = n := hO0.1
    have hl64 : qs.length ≤ 64 := by omega
    have hE1 := HE.out.old (.of_below hb1)
    have hda := a_disassemble A n c qs hnc hcm hok w1 hE1.env hO0.row
    have hdis : disA qs = (disV qs, 0) := by
      unfold disA
      rw [if_neg (by omega), if_pos (firstErr_of hchk)]
    rw [hdis] at hda
    have hdl := lines_len hok hchk hl64 (qs.length + 1) (by omega)
    have hlf := line_facts hl64 hok hchk (qs.length + 1) (Nat.le_refl _)
    have hlt := linesTo_len qs (qs.length + 1)
    have hLB : linesB (mk (disV qs)) = (linesTo qs (qs.length + 1)).map mk := by
      unfold linesB
      rw [bts_mk]
      unfold disV
      rw [trim_lfs _ fun l hm c hcc => ((hlf l hm).1 c hcc).1]
    have hsz : (mk (disV qs)).size ≤ 10000 := by
      rw [mk_len]
      unfold disV
      omega
    have hcom := comments hl64 hok hchk t
    have hol := out_len hlf (t := t)
    obtain ⟨ls, hls⟩ : ∃ ls, linesTo qs (qs.length + 1) = ls := ⟨_, rfl⟩
    rw [hls] at hcom hol hlf hlt hLB
    have HCOM := Lib.hid hcom
    have HOL := Lib.hid hol
    have HLF := Lib.hid hlf
    obtain ⟨m, hm⟩ : ∃ m, ls.length = m := ⟨_, rfl⟩
    have hm62 : m ≤ 62 := by omega
    have hli := fun w => r_Lines (mk (disV qs)) (by omega) w
    rw [hLB] at hli
    obtain ⟨S, hS⟩ : ∃ S, mk (disV qs) = S := ⟨_, rfl⟩
    simp only at hda
    rw [hS] at hda hli
    have H0 := Lib.hid (And.intro hO0.row (And.intro hb1 hE1))
    have HM := Lib.hid hm
    have HQL := Lib.hid hql
    clear hO0 hchk hok hb1 hgood hkp hnn hqs hE1 hdis hdl hlf hlt hLB hsz hcom hol hls hS hm hql hlen
    go_upto_region 8 with (go_at_call 15; refine hda.mono ?_; rintro e w2 ⟨rfl, hb2⟩)
    go_upto_region 9 with (go_at_call 19; refine (hli _).mono ?_; rintro e w3 ⟨A3, c3, rfl, h3a, h3b, hrow, hb3⟩)
    have hmm : (ls.map mk).length = m := by rw [List.length_map, HM.out]
    rw [hmm] at hrow
    first | rw [hmm] | skip
    first | rw [HM.out] | skip
    have HR := Lib.hid hrow
    have HB := Lib.hid (below_trans2 hb2 hb3)
    clear hda hli hb2 hb3 hmm h3a h3b hrow
    go_wp2_with fail
    go_loop [8, 10] (fun sv kv => ∃ k : Nat, k ≤ m ∧ kv = .int .i64 k ∧ sv = .string (mk (lfs (outL t ls k)))) (fun _ kv => m - (intOf kv).toNat)
    case atStart => exact ⟨0, by omega, rfl, rfl⟩
    case round =>
      obtain ⟨k, hk, rfl, rfl⟩ := hrel
      have hsz := HOL.out k (by rw [HM.out]; exact hk)
      have hsz2 : (mk (lfs (outL t ls k))).size ≤ 20000 := by rw [mk_len]; omega
      by_cases hlt : k < m
      · have hlk : (k : Int) < m := by omega
        obtain ⟨l, hl⟩ : ∃ l, ls[k]? = some l := ⟨ls[k]'(by rw [HM.out]; exact hlt), by rw [List.getElem?_eq_getElem]⟩
        have hll := (HLF.out l (List.mem_of_getElem? hl)).2
        obtain ⟨b, off, rfl, hbl, hcc⟩ := HR.out.2 (by omega)
        have hxc := hcc k (mk l) (by rw [List.getElem?_map, hl]; rfl)
        have hlsz : (mk l).size ≤ 115 := by rw [mk_len]; exact hll
        have hsucc : outL t ls (k + 1) = outL t ls k ++ one t k l := by rw [outL_succ, List.getD_eq_getElem?_getD, hl]; rfl
        obtain ⟨X0, hX0⟩ : ∃ X, mk (lfs (outL t ls k)) = X := ⟨_, rfl⟩
        obtain ⟨ML, hML⟩ : ∃ X, mk l = X := ⟨_, rfl⟩
        obtain ⟨X1, hX1⟩ : ∃ X, mk (lfs (outL t ls k) ++ [32]) = X := ⟨_, rfl⟩
        obtain ⟨X2, hX2⟩ : ∃ X, mk (lfs (outL t ls k) ++ [32] ++ l) = X := ⟨_, rfl⟩
        obtain ⟨X3, hX3⟩ : ∃ X, mk (lfs (outL t ls k) ++ [32] ++ l ++ (tail1 ++ [10])) = X := ⟨_, rfl⟩
        obtain ⟨X4, hX4⟩ : ∃ X, mk (lfs (outL t ls k) ++ [32] ++ l ++ (tail1 ++ [10]) ++ [32, 32, 32, 10, 35, 10]) = X := ⟨_, rfl⟩
        have e1 : X0 ++ ⟨#[32]⟩ = X1 := by rw [← hX0, ← hX1, str1, str_app]
        have z1 : X1.size ≤ 20001 := by rw [← hX1, mk_len, List.length_append]; simp; omega
        have e2 : X1 ++ ML = X2 := by rw [← hX1, ← hX2, ← hML]; exact str_app _ _
        have z2 : X2.size ≤ 20200 := by rw [← hX2, mk_len, List.length_append, List.length_append]; simp; omega
        have e3 : X2 ++ ⟨#[32, 32, 35, 32, 110, 111, 112, 58, 32, 55, 10]⟩ = X3 := by rw [← hX2, ← hX3, str2, str_app]
        have z3 : X3.size ≤ 20300 := by rw [← hX3, mk_len, List.length_append, List.length_append, List.length_append]; simp [tail1]; omega
        have e4 : X3 ++ ⟨#[32, 32, 32, 10, 35, 10]⟩ = X4 := by rw [← hX3, ← hX4, str3, str_app]
        rw [hX0] at hsz2
        rw [hX0]
        rw [hML] at hxc hlsz
        have hmod : ((k : Int)).tmod 3 = ((k % 3 : Nat) : Int) := by rw [Int.tmod_eq_emod_of_nonneg (by omega)]; simp
        obtain ⟨r, hr⟩ : ∃ r, k % 3 = r := ⟨_, rfl⟩
        rw [hr] at hmod
        have hr3 : r ≤ 2 := by omega
        clear hl hcc hll hsz
        by_cases htr : t = r
        · have hq : ((t : Int) == r) = true := by simp [htr]
          have hfin : Hid (X4 = mk (lfs (outL t ls (k + 1)))) := Lib.hid (by
            rw [← hX4, hsucc, lfs_append]
            unfold one
            rw [if_pos (by rw [hr]; exact htr)]
            congr 1
            simp [lfs, tail1])
          clear hsucc hr htr hX0 hX1 hX2 hX3 hX4 hML
          go_wp2_with (go_at_call 14; (with_reducible refine (hpl _).mono ?_); rintro e w4 ⟨rfl, rfl⟩)
          go_round
          case rel => exact ⟨k + 1, by omega, by go_num, by rw [← hfin.out]⟩
          case measure => simp [intOf]; omega
        · have hq : ((t : Int) == r) = false := by simp; omega
          have hfin : Hid (X3 = mk (lfs (outL t ls (k + 1)))) := Lib.hid (by
            rw [← hX3, hsucc, lfs_append]
            unfold one
            rw [if_neg (by rw [hr]; exact htr)]
            congr 1
            simp [lfs, tail1])
          clear hsucc hr htr hX0 hX1 hX2 hX3 hX4 hML
          go_wp2_with (go_at_call 14; (with_reducible refine (hpl _).mono ?_); rintro e w4 ⟨rfl, rfl⟩)
          go_round
          case rel => exact ⟨k + 1, by omega, by go_num, by rw [← hfin.out]⟩
          case measure => simp [intOf]; omega
      · obtain rfl : k = m := by omega
        have hE2 := H0.out.2.2.below HB.out
        have has := a_assemble (mk (lfs (outL t ls k))) (by omega) _ hE2
        have hR0 := H0.out.1.below HB.out
        have HE2 := Lib.hid hE2
        have HBB := Lib.hid (H0.out.2.1.trans (HB.out.mono H0.out.2.1.size))
        clear hlt hk hsz hE2
        go_upto_region 16 with (go_at_call 9; refine has.mono ?_; rintro e w5 ⟨hb5, h5⟩; rw [bts_mk, ← HM.out, HCOM.out] at h5; obtain ⟨A5, c5, rfl, hc5, hR5⟩ := h5)
        have hR5' := RowP.of_ins hR5
        have hq := HQL.out
        rw [hq] at hR5'
        first | rw [hq] | skip
        have hkg := AsmL.k_program A5 A n n c5 c qs w5 (by omega) hR5' (hR0.below hb5)
        clear hq hR5'
        have HE5 := Lib.hid (HE2.out.below hb5)
        have HB5 := Lib.hid hb5
        clear has hR0 hb5
        go_wp2_with (first
          | (go_at_call 11; (with_reducible refine hkg.mono ?_); rintro e w6 ⟨rfl, hb6⟩)
          | (go_at_call 8; refine (AsmL.l_awake _ (HE5.out.below hb6)).mono ?_; rintro e w7 ⟨rfl, hb7⟩))
        go_ret
        exact ⟨rfl, Kept.of_below (HBB.out.trans ((below_trans2 HB5.out (below_trans2 hb6 hb7)).mono HBB.out.size))⟩

/-! The heap that lays the listed variables meets the row's condition. -/
theorem laid_met (os : Os) (args : Array Value) : laidMetH Tryz.prog [("math/bits.deBruijn32tab", Rows.laid_math_bits_deBruijn32tab), ("math/bits.deBruijn64tab", Rows.laid_math_bits_deBruijn64tab), ("internal/strconv.uint64pow10", Rows.laid_internal_strconv_uint64pow10), ("unicode/utf8.acceptRanges", Rows.laid_unicode_utf8_acceptRanges), ("strconv.ErrRange", Rows.laid_strconv_ErrRange), ("strconv.ErrSyntax", Rows.laid_strconv_ErrSyntax), ("strongtx/alu.names", Rows.laid_strongtx_alu_names), ("strongtx/isa.shapes", Rows.laid_strongtx_isa_shapes), ("unicode/utf8.first", Rows.laid_unicode_utf8_first)] ((World.laidAll Tryz.prog os [("math/bits.deBruijn32tab", Rows.laid_math_bits_deBruijn32tab), ("math/bits.deBruijn64tab", Rows.laid_math_bits_deBruijn64tab), ("internal/strconv.uint64pow10", Rows.laid_internal_strconv_uint64pow10), ("unicode/utf8.acceptRanges", Rows.laid_unicode_utf8_acceptRanges), ("strconv.ErrRange", Rows.laid_strconv_ErrRange), ("strconv.ErrSyntax", Rows.laid_strconv_ErrSyntax), ("strongtx/alu.names", Rows.laid_strongtx_alu_names), ("strongtx/isa.shapes", Rows.laid_strongtx_isa_shapes), ("unicode/utf8.first", Rows.laid_unicode_utf8_first)]).forCall (fun _ _ => 0) ⟨#[], args, []⟩).memory := by
  rw [MakeChecks.laidMetH_plain _ _ _ (by kernel_rfl)]
  exact laidMet_laidAll _ (by kernel_rfl) (by kernel_rfl)

/-! The row's step. -/
set_option maxRecDepth 100000 in
theorem lifted (os : Os) (started : os.Started) (H : Type) (enc : TypeId × Value → H) :
    ReturnsInHanded {} Tryz.checked os 7 .any (fun w args => (Rows.asmCommentsSpec.pre enc Tryz.prog Tryz.f7 Rows.asmCommentsRow.domain false w args ∧ laidMetH Tryz.prog [("math/bits.deBruijn32tab", Rows.laid_math_bits_deBruijn32tab), ("math/bits.deBruijn64tab", Rows.laid_math_bits_deBruijn64tab), ("internal/strconv.uint64pow10", Rows.laid_internal_strconv_uint64pow10), ("unicode/utf8.acceptRanges", Rows.laid_unicode_utf8_acceptRanges), ("strconv.ErrRange", Rows.laid_strconv_ErrRange), ("strconv.ErrSyntax", Rows.laid_strconv_ErrSyntax), ("strongtx/alu.names", Rows.laid_strongtx_alu_names), ("strongtx/isa.shapes", Rows.laid_strongtx_isa_shapes), ("unicode/utf8.first", Rows.laid_unicode_utf8_first)] w) ∧ sizedMet enc Tryz.prog Tryz.f7 (OpenSpec.ofChange Rows.asmCommentsSpec) false w args)
      (Rows.asmCommentsSpec.post enc Tryz.prog Tryz.f7 false true false false) := by
  refine AsmW.step_listed (C := Tryz.checked) (X := fun w _ => laidMetH Tryz.prog [("math/bits.deBruijn32tab", Rows.laid_math_bits_deBruijn32tab), ("math/bits.deBruijn64tab", Rows.laid_math_bits_deBruijn64tab), ("internal/strconv.uint64pow10", Rows.laid_internal_strconv_uint64pow10), ("unicode/utf8.acceptRanges", Rows.laid_unicode_utf8_acceptRanges), ("strconv.ErrRange", Rows.laid_strconv_ErrRange), ("strconv.ErrSyntax", Rows.laid_strconv_ErrSyntax), ("strongtx/alu.names", Rows.laid_strongtx_alu_names), ("strongtx/isa.shapes", Rows.laid_strongtx_isa_shapes), ("unicode/utf8.first", Rows.laid_unicode_utf8_first)] w) (fun _ _ _ hh h => h.of_heap hh) own started (by kernel_rfl) Tryz.func7
    (ChangeSpec.witness_shaped (enc := enc) (C := Tryz.checked) (os := os) (X := fun w _ => laidMetH Tryz.prog [("math/bits.deBruijn32tab", Rows.laid_math_bits_deBruijn32tab), ("math/bits.deBruijn64tab", Rows.laid_math_bits_deBruijn64tab), ("internal/strconv.uint64pow10", Rows.laid_internal_strconv_uint64pow10), ("unicode/utf8.acceptRanges", Rows.laid_unicode_utf8_acceptRanges), ("strconv.ErrRange", Rows.laid_strconv_ErrRange), ("strconv.ErrSyntax", Rows.laid_strconv_ErrSyntax), ("strongtx/alu.names", Rows.laid_strongtx_alu_names), ("strongtx/isa.shapes", Rows.laid_strongtx_isa_shapes), ("unicode/utf8.first", Rows.laid_unicode_utf8_first)] w) false (World.laidAll Tryz.prog os [("math/bits.deBruijn32tab", Rows.laid_math_bits_deBruijn32tab), ("math/bits.deBruijn64tab", Rows.laid_math_bits_deBruijn64tab), ("internal/strconv.uint64pow10", Rows.laid_internal_strconv_uint64pow10), ("unicode/utf8.acceptRanges", Rows.laid_unicode_utf8_acceptRanges), ("strconv.ErrRange", Rows.laid_strconv_ErrRange), ("strconv.ErrSyntax", Rows.laid_strconv_ErrSyntax), ("strongtx/alu.names", Rows.laid_strongtx_alu_names), ("strongtx/isa.shapes", Rows.laid_strongtx_isa_shapes), ("unicode/utf8.first", Rows.laid_unicode_utf8_first)]) #[.slice none 0 0, .int .i64 0] 8 (World.laidAll_os _ _ _) (World.shaped_of_ZipB (by kernel_rfl) (by kernel_rfl)) (by kernel_rfl) (by kernel_rfl) (by kernel_rfl) (laid_met os _)) ?_
  intro W base args ds gs before hval0 hW hL hSh
  have hval : ∀ (j : Nat) t v, Tryz.f7.params[j]? = some t → args[j]? = some v → Value.okWide Tryz.prog W .any base t v := hval0
  have hW' := hW
  obtain ⟨p, q, hA0, hV, rfl, hfz, hnd⟩ := hW
  have hA : DataW.TrodAll enc Tryz.prog W 0 (fun _ => true) true Tryz.f7.params.toList args.toList ds p := hA0
  rw [Tryz.params7] at hA hval
  obtain ⟨v0, vs0, d0, ds0, p0, q0, hargs, rfl, rfl, h0, r0⟩ := trodAll_cons hA
  obtain ⟨v1, vs1, d1, ds1, p1, q1, rfl, rfl, rfl, h1, r1⟩ := trodAll_cons r0
  obtain ⟨rfl, rfl, rfl⟩ := trodAll_nil r1
  obtain rfl : args = #[v0, v1] := by cases args; simp_all
  obtain ⟨rfl, rfl⟩ := trodVars_none hV
  have hk : ∀ W', Kept W W' → Rows.asmCommentsSpec.post enc Tryz.prog Tryz.f7 false true false false W #[v0, v1] (.bool true) W' := fun W' hb =>
    post_law laidOut readable rfl Tryz.underlying4 rfl hW' rfl hb
  clear hA0 hval0 hA hW'
  obtain ⟨A0, n0, c0, z0, rfl, l0, m0, s0⟩ := open_slice Tryz.underlying29 Tryz.underlying3 cells3 (hval 0 29 v0 rfl rfl) h0
  obtain ⟨a1, rfl, rfl, rfl, w1⟩ := open_int Tryz.underlying3 (hval 1 3 v1 rfl rfl) h1
  refine (walk W (AsmW.envm_of hL hSh) A0 n0 c0 z0 l0 m0 s0 a1 w1).mono fun e W' ⟨he, hg⟩ => ?_
  subst he
  exact ⟨_, rfl, hk W' hg⟩

theorem over : Rows.asmCommentsRow.holds Tryz.pinned (OpenSpec.ofChange Rows.asmCommentsSpec) :=
  OpenClaim.holds_of_wide 7 Tryz.f7 rfl rfl rfl rfl rfl rfl rfl ⟨rfl, rfl, rfl, rfl, rfl⟩ rfl rfl rfl rfl rfl (by kernel_rfl) Tryz.func7 (by kernel_rfl)
    (of_decide_eq_true (by kernel_rfl)) (by unfold Func.isWrapper; first | (rw [if_pos (by decide +kernel)]; kernel_rfl) | (rw [if_neg (by decide +kernel)]; exact ⟨rfl, rfl⟩))
    (fun os started H enc _ => lifted os started H enc)

/-- The row. -/
theorem row : Rows.AsmCommentsSaid :=
  over

/-- The statement: the tied card. -/
theorem proved : Rows.AsmCommentsCardSaid :=
  Claim7.holds_tied_plain_at .later [] [.data, .data, .data, .data, .sentinel, .sentinel, .data, .data, .pinned] true (true, "1ef751ac43e9856c99f1e939776a48ec7e3069089b5d180d8b7c2a31704f499a") true
    row (fun _ h => by cases h) (by kernel_rfl) (fun _ h => by cases h) asmComments_row_tie rfl ⟨rfl, rfl⟩ (by kernel_rfl) rfl
    (fun f fn hf hfn => by
      obtain rfl : f = 7 := Option.some.inj ((show Tryz.prog.funcNamed "strongtx/strongtxlaw04.AsmComments" = some 7 by kernel_rfl).symm.trans hf) |>.symm
      obtain rfl : fn = Tryz.f7 := (Option.some.inj (Tryz.func7.symm.trans hfn)).symm
      exact ⟨by kernel_rfl, fun j t ht => by
        rw [Tryz.params7] at ht
        have hm : t ∈ [29, 3] := by simpa using Array.mem_of_getElem? ht
        have hall : ([29, 3].all fun u => !Tryz.prog.wantsStandIn u) = true := by kernel_rfl
        exact (show Tryz.prog.wantsStandIn t = false by simpa using List.all_eq_true.1 hall t hm)⟩)
    (by kernel_rfl)
#print axioms proved
end Go.Proofs.YtcplhochgngedaaGreatDoor.asmComments
