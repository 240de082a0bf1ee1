/-
  Proved: a program is recovered from its text, whatever its jumps are. No condition.
-/
import Derived.Test.YtcplhochgngedaaGreatDoorRows
import Derived.WalkKit
import Derived.ProofKit
import Derived.OpenShut
import Derived.Test.YtcplhochgngedaaGreatDoorFrame
import Derived.LaidMore
import Derived.Stop.Joined
import Derived.SevenTiedAt
import Derived.Lay
import Derived.Test.YtcplhochgngedaaGreatDoorAsmW
import Derived.Test.YtcplhochgngedaaGreatDoorTie
import Derived.Test.YtcplhochgngedaaGreatDoorCards
import Derived.Test.YtcplhochgngedaaGreatDoorAsmW
import Derived.Test.YtcplhochgngedaaGreatDoorAsmL
import Derived.Test.YtcplhochgngedaaGreatDoorAsmQ
import Derived.Test.YtcplhochgngedaaGreatDoorAsmV
namespace Go.Proofs.YtcplhochgngedaaGreatDoor.asmRound
open Go.ChangeShapes Go.WideShapes Go.ChangeAt Go.RowKit
open LawFrame
open Go.ChangeMaps (open_string)
set_option linter.unusedVariables false

theorem own : ownKnob Tryz.prog.godebug = none := by kernel_rfl
theorem laidOut : laidOutB Tryz.prog = true := by kernel_rfl
theorem cells3 : Tryz.prog.cellsOf 3 = 1 := by kernel_rfl

open PlainT IsaE IsaS BlkW IsaA IsaB IsaF IsaL AsmS AsmT AsmA AsmB AsmC AsmE AsmF DisA DisB DisC AsmL AsmQ AsmV RefB
set_option maxHeartbeats 4000000
set_option maxRecDepth 100000

theorem readable : ∀ t ∈ Tryz.f6.params.toList, Tryz.prog.readableRec t = true ∧ t < Tryz.prog.types.size := by
  have h : (Tryz.f6.params.toList.all fun t => Tryz.prog.readableRec t && decide (t < Tryz.prog.types.size)) = true := by kernel_rfl
  intro t ht
  have := List.all_eq_true.1 h t ht
  simpa using this

/-! The walk. -/
theorem walk (w : World) (hE : AsmA.EnvM w) (A0 : Option Addr) (n0 c0 : Nat) (z0 : List Int) (l0 : n0 ≤ c0) (m0 : c0 ≤ maxLen) (s0 : Ints .i64 w A0 n0 z0) (A1 : Option Addr) (n1 c1 : Nat) (z1 : List Int) (l1 : n1 ≤ c1) (m1 : c1 ≤ maxLen) (s1 : Ints .i64 w A1 n1 z1) :
    Calls Tryz.prog 6 #[.slice A0 n0 c0, .slice A1 n1 c1] w fun e w' => e = .returned (.bool true) ∧ Kept w w' := by
  have HZ0 := Lib.hid s0
  have HZ1 := Lib.hid s1
  have HE := Lib.hid hE
  clear s0 s1
  go_enter Tryz.func6, Tryz.ntmps6
  by_cases hbig : (60 : Int) < n0
  · go_wp2_with fail
    refine (AsmL.l_awake _ hE).mono ?_
    rintro e w3 ⟨rfl, hb1⟩
    have HB1 := Lib.hid hb1
    clear hb1
    go_wp2
    go_ret
    exact ⟨rfl, .of_below HB1.out⟩
  · have hn : (n0 : Int) ≤ 60 := by omega
    clear hbig
    have hkp := PrgY.k_program A0 n0 c0 z0 40 true true w l0 m0 (by decide) (by decide) HZ0.out
    rw [show ((40 : Nat) : Int) = 40 from rfl] at hkp
    go_upto_region 4 with (go_at_call 17; refine hkp.mono ?_; rintro e w1 ⟨A, c, ps, rfl, hgood, hb1⟩)
    obtain ⟨hO0, hlen, hchk, hok⟩ := made_in hgood
    obtain ⟨n, hnn⟩ : ∃ n, ps.length = n := ⟨_, rfl⟩
    rw [hnn] at hO0 hlen
    first | rw [hnn] | skip
    obtain ⟨hnc, hcm⟩ := hO0.cap
    have H0 : Hid (OwnP w1 w.heap.size A n c (ps.map toIn) ∧ (∀ x ∈ ps.map toIn, AsmT.chkI x = 0) ∧ (∀ x ∈ ps.map toIn, DisA.OkI x) ∧ Below w.heap.size w w1) := Lib.hid ⟨hO0, hchk, hok, hb1⟩
    have hn40 : (n : Int) ≤ 40 := by omega
    clear hO0 hchk hok hb1 hgood hkp hnn
    go_wp2_with fail
    go_loopw [6] (fun kv wr => ∃ (k : Nat) (qs : List In), k ≤ n ∧ kv = .int .i64 k ∧ OwnP wr w.heap.size A n c qs ∧ (∀ x ∈ qs, AsmT.chkI x = 0) ∧ (∀ x ∈ qs, DisA.OkI x) ∧ Below w.heap.size w wr) (fun kv _ => n - (intOf kv).toNat)
    case atStart => exact ⟨0, _, by omega, rfl, H0.out.1, H0.out.2.1, H0.out.2.2.1, H0.out.2.2.2⟩
    case round =>
      clear H0
      obtain ⟨k, qs, hk, rfl, ho, hc0, hi0, hb⟩ := hrel
      have HO := Lib.hid ho
      have HC := Lib.hid hc0
      have HI := Lib.hid hi0
      have HB := Lib.hid hb
      clear ho hc0 hi0 hb
      by_cases hlt : k < n
      · have hlk : (k : Int) < n := by omega
        obtain ⟨g, x, rfl, hgB, hgl, hx, d0, d1, d2, d3, d4, df⟩ := HO.out.five hlt
        have hxO := HI.out x (List.mem_of_getElem? hx)
        obtain ⟨op, xa, xb, xc, xi⟩ := x
        simp only at d0 d1 d2 d3 d4
        have HX := Lib.hid hx
        have hii : InInt xi := hxO.2.2.2.2
        obtain ⟨y, hy⟩ : ∃ y, skipsB op xa xb xc xi = y := ⟨_, rfl⟩
        obtain ⟨v, hv⟩ : ∃ v, skipsV op xa xb xc xi = v := ⟨_, rfl⟩
        have hsk := r_skips_v op xa xb xc xi v hii y hy hv wr
        have HY := Lib.hid hy
        clear hx hxO hii hy hv
        go_upto_region 8 with (go_at_call 18; refine hsk.mono ?_; rintro e w2 ⟨rfl, hb2⟩)
        have HO2 := Lib.hid (HO.out.below hb2)
        have HB2 := Lib.hid (HB.out.trans (hb2.mono HB.out.size))
        have df2 : w2.frozen? ⟨g, k * 5 + 4, none⟩ = false := by
          obtain ⟨g', x', e1, _, _, _, _, _, _, _, _, df'⟩ := HO2.out.five hlt
          injection e1 with e1
          injection e1 with e1
          rw [e1]
          exact df'
        have d42 : w2.cell? ⟨g, k * 5 + 4, none⟩ = some (.int .i64 xi) := (World.cell?_of_block (hb2.block g hgl)).trans d4
        clear hsk d0 d1 d2 d3 d4 df hb2
        cases y with
        | false =>
          go_wp2_with fail
          go_roundw
          case rel => exact ⟨k + 1, qs, by omega, by go_num, HO2.out, HC.out, HI.out, HB2.out⟩
          case measure => simp [intOf]; omega
        | true =>
          by_cases hs : (k : Int) < n1
          · obtain ⟨tb, toff, tx, rfl, htb, htc⟩ := iat HZ1.out HB2.out (show k < n1 by omega)
            obtain ⟨t, ht⟩ : ∃ t, pl tx 60 = t := ⟨_, rfl⟩
            have hin := pl_in tx 60 (by decide) (by decide)
            rw [ht] at hin
            have hpl := IsaL.k_place tx 60 t (by decide) (by decide) ht
            have hput := HO2.out.put hlt t
            have hB3 := HB2.out.setCell (p := ⟨g, k * 5 + 4, none⟩) hgB (.int .i64 t)
            have hC3 : ∀ x ∈ setImm qs k t, AsmT.chkI x = 0 := setImm_mem HC.out fun x hx => by
              rw [HX.out] at hx
              injection hx with hx
              subst hx
              exact jump_any (show isJ (op, ⟨xa, xb, xc, xi⟩) = true from HY.out) (by omega) (by omega)
            have hI3 : ∀ x ∈ setImm qs k t, DisA.OkI x := setImm_mem HI.out fun x hx => ok_any (HI.out x (List.mem_of_getElem? hx)) (by omega) (by omega)
            have HP := Lib.hid hput
            have HB3 := Lib.hid hB3
            have HC3 := Lib.hid hC3
            have HI3 := Lib.hid hI3
            clear ht hput hB3 hC3 hI3
            go_wp2_with (go_at_call 14; (with_reducible refine (hpl _).mono ?_); rintro e w4 ⟨rfl, rfl⟩)
            go_roundw
            case rel => exact ⟨k + 1, _, by omega, by go_num, HP.out, HC3.out, HI3.out, HB3.out⟩
            case measure => simp [intOf]; omega
          · go_wp2_with fail
            go_roundw
            case rel => exact ⟨k + 1, qs, by omega, by go_num, HO2.out, HC.out, HI.out, HB2.out⟩
            case measure => simp [intOf]; omega
      · obtain rfl : k = n := by omega
        have hEr := HE.out.old (.of_below HB.out)
        have hda := a_disassemble A k c qs hnc hcm HI.out wr hEr.env HO.out.row
        have hl64 : qs.length ≤ 64 := by have := HO.out.1; omega
        have hdis : disA qs = (disV qs, 0) := by
          unfold disA
          rw [if_neg (by omega), if_pos (firstErr_of HC.out)]
        rw [hdis] at hda
        have hdl := lines_len HI.out HC.out hl64 (qs.length + 1) (by omega)
        have hsz : (mk (disV qs)).size ≤ 10000 := by
          rw [mk_len]
          unfold disV
          omega
        have hrd := round hl64 HI.out HC.out
        have HRD := Lib.hid hrd
        have HER := Lib.hid hEr
        obtain ⟨S, hS⟩ : ∃ S, mk (disV qs) = S := ⟨_, rfl⟩
        simp only at hda
        rw [hS] at hda hsz
        have HS := Lib.hid hS
        clear hlt hk hdis hdl hrd hEr hS
        go_upto_region 11 with (go_at_call 15; refine hda.mono ?_; rintro e w2 ⟨rfl, hb2⟩)
        have hE2 := HER.out.below hb2
        have has := a_assemble S (by omega) w2 hE2
        clear hda
        go_upto_region 12 with (go_at_call 9; refine has.mono ?_; rintro e w3 ⟨hb3, h3⟩; rw [← HS.out, bts_mk, HRD.out] at h3; obtain ⟨A3, c3, rfl, hc3, hR3⟩ := h3)
        have hE3 := hE2.below hb3
        have hq : qs.length = k := HO.out.1
        have hR0 := (HO.out.row.below hb2).below hb3
        have hR3' := RowP.of_ins hR3
        rw [hq] at hR3'
        first | rw [hq] | skip
        have hkg := AsmL.k_program A3 A k k c3 c qs w3 (by omega) hR3' hR0
        clear hq
        have HBB := Lib.hid (HB.out.trans (below_trans2 hb2 hb3 |>.mono HB.out.size))
        have HE3 := Lib.hid hE3
        clear has hR0 hR3 hR3' hE2 hE3
        go_wp2_with (first
          | (go_at_call 11; (with_reducible refine hkg.mono ?_); rintro e w4 ⟨rfl, hb4⟩)
          | (go_at_call 8; refine (AsmL.l_awake _ (HE3.out.below hb4)).mono ?_; rintro e w5 ⟨rfl, hb5⟩))
        go_ret
        exact ⟨rfl, Kept.of_below (HBB.out.trans ((below_trans2 hb4 hb5).mono HBB.out.size))⟩

/-! The heap that lays the listed variables meets the row's condition. -/
theorem laid_met (os : Os) (args : Array Value) : laidMetH Tryz.prog [("math/bits.deBruijn32tab", Rows.laid_math_bits_deBruijn32tab), ("math/bits.deBruijn64tab", Rows.laid_math_bits_deBruijn64tab), ("internal/strconv.uint64pow10", Rows.laid_internal_strconv_uint64pow10), ("unicode/utf8.acceptRanges", Rows.laid_unicode_utf8_acceptRanges), ("strconv.ErrRange", Rows.laid_strconv_ErrRange), ("strconv.ErrSyntax", Rows.laid_strconv_ErrSyntax), ("strongtx/alu.names", Rows.laid_strongtx_alu_names), ("strongtx/isa.shapes", Rows.laid_strongtx_isa_shapes), ("unicode/utf8.first", Rows.laid_unicode_utf8_first)] ((World.laidAll Tryz.prog os [("math/bits.deBruijn32tab", Rows.laid_math_bits_deBruijn32tab), ("math/bits.deBruijn64tab", Rows.laid_math_bits_deBruijn64tab), ("internal/strconv.uint64pow10", Rows.laid_internal_strconv_uint64pow10), ("unicode/utf8.acceptRanges", Rows.laid_unicode_utf8_acceptRanges), ("strconv.ErrRange", Rows.laid_strconv_ErrRange), ("strconv.ErrSyntax", Rows.laid_strconv_ErrSyntax), ("strongtx/alu.names", Rows.laid_strongtx_alu_names), ("strongtx/isa.shapes", Rows.laid_strongtx_isa_shapes), ("unicode/utf8.first", Rows.laid_unicode_utf8_first)]).forCall (fun _ _ => 0) ⟨#[], args, []⟩).memory := by
  rw [MakeChecks.laidMetH_plain _ _ _ (by kernel_rfl)]
  exact laidMet_laidAll _ (by kernel_rfl) (by kernel_rfl)

/-! The row's step. -/
set_option maxRecDepth 100000 in
theorem lifted (os : Os) (started : os.Started) (H : Type) (enc : TypeId × Value → H) :
    ReturnsInHanded {} Tryz.checked os 6 .any (fun w args => (Rows.asmRoundSpec.pre enc Tryz.prog Tryz.f6 Rows.asmRoundRow.domain false w args ∧ laidMetH Tryz.prog [("math/bits.deBruijn32tab", Rows.laid_math_bits_deBruijn32tab), ("math/bits.deBruijn64tab", Rows.laid_math_bits_deBruijn64tab), ("internal/strconv.uint64pow10", Rows.laid_internal_strconv_uint64pow10), ("unicode/utf8.acceptRanges", Rows.laid_unicode_utf8_acceptRanges), ("strconv.ErrRange", Rows.laid_strconv_ErrRange), ("strconv.ErrSyntax", Rows.laid_strconv_ErrSyntax), ("strongtx/alu.names", Rows.laid_strongtx_alu_names), ("strongtx/isa.shapes", Rows.laid_strongtx_isa_shapes), ("unicode/utf8.first", Rows.laid_unicode_utf8_first)] w) ∧ sizedMet enc Tryz.prog Tryz.f6 (OpenSpec.ofChange Rows.asmRoundSpec) false w args)
      (Rows.asmRoundSpec.post enc Tryz.prog Tryz.f6 false true false false) := by
  refine AsmW.step_listed (C := Tryz.checked) (X := fun w _ => laidMetH Tryz.prog [("math/bits.deBruijn32tab", Rows.laid_math_bits_deBruijn32tab), ("math/bits.deBruijn64tab", Rows.laid_math_bits_deBruijn64tab), ("internal/strconv.uint64pow10", Rows.laid_internal_strconv_uint64pow10), ("unicode/utf8.acceptRanges", Rows.laid_unicode_utf8_acceptRanges), ("strconv.ErrRange", Rows.laid_strconv_ErrRange), ("strconv.ErrSyntax", Rows.laid_strconv_ErrSyntax), ("strongtx/alu.names", Rows.laid_strongtx_alu_names), ("strongtx/isa.shapes", Rows.laid_strongtx_isa_shapes), ("unicode/utf8.first", Rows.laid_unicode_utf8_first)] w) (fun _ _ _ hh h => h.of_heap hh) own started (by kernel_rfl) Tryz.func6
    (ChangeSpec.witness_shaped (enc := enc) (C := Tryz.checked) (os := os) (X := fun w _ => laidMetH Tryz.prog [("math/bits.deBruijn32tab", Rows.laid_math_bits_deBruijn32tab), ("math/bits.deBruijn64tab", Rows.laid_math_bits_deBruijn64tab), ("internal/strconv.uint64pow10", Rows.laid_internal_strconv_uint64pow10), ("unicode/utf8.acceptRanges", Rows.laid_unicode_utf8_acceptRanges), ("strconv.ErrRange", Rows.laid_strconv_ErrRange), ("strconv.ErrSyntax", Rows.laid_strconv_ErrSyntax), ("strongtx/alu.names", Rows.laid_strongtx_alu_names), ("strongtx/isa.shapes", Rows.laid_strongtx_isa_shapes), ("unicode/utf8.first", Rows.laid_unicode_utf8_first)] w) false (World.laidAll Tryz.prog os [("math/bits.deBruijn32tab", Rows.laid_math_bits_deBruijn32tab), ("math/bits.deBruijn64tab", Rows.laid_math_bits_deBruijn64tab), ("internal/strconv.uint64pow10", Rows.laid_internal_strconv_uint64pow10), ("unicode/utf8.acceptRanges", Rows.laid_unicode_utf8_acceptRanges), ("strconv.ErrRange", Rows.laid_strconv_ErrRange), ("strconv.ErrSyntax", Rows.laid_strconv_ErrSyntax), ("strongtx/alu.names", Rows.laid_strongtx_alu_names), ("strongtx/isa.shapes", Rows.laid_strongtx_isa_shapes), ("unicode/utf8.first", Rows.laid_unicode_utf8_first)]) #[.slice none 0 0, .slice none 0 0] 8 (World.laidAll_os _ _ _) (World.shaped_of_ZipB (by kernel_rfl) (by kernel_rfl)) (by kernel_rfl) (by kernel_rfl) (by kernel_rfl) (laid_met os _)) ?_
  intro W base args ds gs before hval0 hW hL hSh
  have hval : ∀ (j : Nat) t v, Tryz.f6.params[j]? = some t → args[j]? = some v → Value.okWide Tryz.prog W .any base t v := hval0
  have hW' := hW
  obtain ⟨p, q, hA0, hV, rfl, hfz, hnd⟩ := hW
  have hA : DataW.TrodAll enc Tryz.prog W 0 (fun _ => true) true Tryz.f6.params.toList args.toList ds p := hA0
  rw [Tryz.params6] at hA hval
  obtain ⟨v0, vs0, d0, ds0, p0, q0, hargs, rfl, rfl, h0, r0⟩ := trodAll_cons hA
  obtain ⟨v1, vs1, d1, ds1, p1, q1, rfl, rfl, rfl, h1, r1⟩ := trodAll_cons r0
  obtain ⟨rfl, rfl, rfl⟩ := trodAll_nil r1
  obtain rfl : args = #[v0, v1] := by cases args; simp_all
  obtain ⟨rfl, rfl⟩ := trodVars_none hV
  have hk : ∀ W', Kept W W' → Rows.asmRoundSpec.post enc Tryz.prog Tryz.f6 false true false false W #[v0, v1] (.bool true) W' := fun W' hb =>
    post_law laidOut readable rfl Tryz.underlying4 rfl hW' rfl hb
  clear hA0 hval0 hA hW'
  obtain ⟨A0, n0, c0, z0, rfl, l0, m0, s0⟩ := open_slice Tryz.underlying29 Tryz.underlying3 cells3 (hval 0 29 v0 rfl rfl) h0
  obtain ⟨A1, n1, c1, z1, rfl, l1, m1, s1⟩ := open_slice Tryz.underlying29 Tryz.underlying3 cells3 (hval 1 29 v1 rfl rfl) h1
  refine (walk W (AsmW.envm_of hL hSh) A0 n0 c0 z0 l0 m0 s0 A1 n1 c1 z1 l1 m1 s1).mono fun e W' ⟨he, hg⟩ => ?_
  subst he
  exact ⟨_, rfl, hk W' hg⟩

theorem over : Rows.asmRoundRow.holds Tryz.pinned (OpenSpec.ofChange Rows.asmRoundSpec) :=
  OpenClaim.holds_of_wide 6 Tryz.f6 rfl rfl rfl rfl rfl rfl rfl ⟨rfl, rfl, rfl, rfl, rfl⟩ rfl rfl rfl rfl rfl (by kernel_rfl) Tryz.func6 (by kernel_rfl)
    (of_decide_eq_true (by kernel_rfl)) (by unfold Func.isWrapper; first | (rw [if_pos (by decide +kernel)]; kernel_rfl) | (rw [if_neg (by decide +kernel)]; exact ⟨rfl, rfl⟩))
    (fun os started H enc _ => lifted os started H enc)

/-- The row. -/
theorem row : Rows.AsmRoundSaid :=
  over

/-- The statement: the tied card. -/
theorem proved : Rows.AsmRoundCardSaid :=
  Claim7.holds_tied_plain_at .later [] [.data, .data, .data, .data, .sentinel, .sentinel, .data, .data, .pinned] true (true, "1ef751ac43e9856c99f1e939776a48ec7e3069089b5d180d8b7c2a31704f499a") true
    row (fun _ h => by cases h) (by kernel_rfl) (fun _ h => by cases h) asmRound_row_tie rfl ⟨rfl, rfl⟩ (by kernel_rfl) rfl
    (fun f fn hf hfn => by
      obtain rfl : f = 6 := Option.some.inj ((show Tryz.prog.funcNamed "strongtx/strongtxlaw04.AsmRound" = some 6 by kernel_rfl).symm.trans hf) |>.symm
      obtain rfl : fn = Tryz.f6 := (Option.some.inj (Tryz.func6.symm.trans hfn)).symm
      exact ⟨by kernel_rfl, fun j t ht => by
        rw [Tryz.params6] at ht
        have hm : t ∈ [29, 29] := by simpa using Array.mem_of_getElem? ht
        have hall : ([29, 29].all fun u => !Tryz.prog.wantsStandIn u) = true := by kernel_rfl
        exact (show Tryz.prog.wantsStandIn t = false by simpa using List.all_eq_true.1 hall t hm)⟩)
    (by kernel_rfl)
#print axioms proved
end Go.Proofs.YtcplhochgngedaaGreatDoor.asmRound
