/-
  Proved: Disassemble returns the text and the error of the document for any instructions, and for programs. No condition.
-/
import Derived.Test.YtcplhochgngedaaGreatDoorRows
import Derived.WalkKit
import Derived.ProofKit
import Derived.OpenShut
import Derived.Test.YtcplhochgngedaaGreatDoorFrame
import Derived.LaidMore
import Derived.Stop.Joined
import Derived.SevenTiedAt
import Derived.Lay
import Derived.Test.YtcplhochgngedaaGreatDoorAsmW
import Derived.Test.YtcplhochgngedaaGreatDoorTie
import Derived.Test.YtcplhochgngedaaGreatDoorCards
import Derived.Test.YtcplhochgngedaaGreatDoorAsmW
import Derived.Test.YtcplhochgngedaaGreatDoorAsmL
import Derived.Test.YtcplhochgngedaaGreatDoorAsmO
import Derived.Test.YtcplhochgngedaaGreatDoorAsmQ
import Derived.Test.YtcplhochgngedaaGreatDoorRfE
namespace Go.Proofs.YtcplhochgngedaaGreatDoor.asmDisassembles
open Go.ChangeShapes Go.WideShapes Go.ChangeAt Go.RowKit
open LawFrame
open Go.ChangeMaps (open_string)
set_option linter.unusedVariables false

theorem own : ownKnob Tryz.prog.godebug = none := by kernel_rfl
theorem laidOut : laidOutB Tryz.prog = true := by kernel_rfl
theorem cells3 : Tryz.prog.cellsOf 3 = 1 := by kernel_rfl

open PlainT IsaE IsaS BlkW IsaA IsaB IsaF IsaL AsmS AsmT AsmA AsmB AsmC AsmE AsmF DisA DisB DisC AsmL AsmQ RefB RfE
set_option maxHeartbeats 4000000
set_option maxRecDepth 100000
theorem ints_below {w w' : World} {A : Option Addr} {n : Nat} {z : List Int} (h : LawFrame.Ints .i64 w A n z) (k : Below w.heap.size w w') : LawFrame.Ints .i64 w' A n z := by
  obtain ⟨h1, h2, h3⟩ := h
  refine ⟨h1, h2, fun h0 => ?_⟩
  obtain ⟨b, off, rfl, hb, hc⟩ := h3 h0
  exact ⟨b, off, rfl, Nat.lt_of_lt_of_le hb k.size, fun j hj => (World.cell?_of_block (k.block b hb)).trans (hc j hj)⟩

theorem readable : ∀ t ∈ Tryz.f5.params.toList, Tryz.prog.readableRec t = true ∧ t < Tryz.prog.types.size := by
  have h : (Tryz.f5.params.toList.all fun t => Tryz.prog.readableRec t && decide (t < Tryz.prog.types.size)) = true := by kernel_rfl
  intro t ht
  have := List.all_eq_true.1 h t ht
  simpa using this

/-! The walk. -/
theorem walk (w : World) (hE : AsmA.EnvM w) (A0 : Option Addr) (n0 c0 : Nat) (q0 : List AsmT.In) (l0 : n0 ≤ c0) (m0 : c0 ≤ maxLen) (rp0 : DisB.RowP w A0 n0 q0) (ko0 : ∀ x ∈ q0, DisA.OkI x) (A1 : Option Addr) (n1 c1 : Nat) (z1 : List Int) (l1 : n1 ≤ c1) (m1 : c1 ≤ maxLen) (s1 : Ints .i64 w A1 n1 z1) (A2 : Option Addr) (n2 c2 : Nat) (z2 : List Int) (l2 : n2 ≤ c2) (m2 : c2 ≤ maxLen) (s2 : Ints .i64 w A2 n2 z2) :
    Calls Tryz.prog 5 #[.slice A0 n0 c0, .slice A1 n1 c1, .slice A2 n2 c2] w fun e w' => e = .returned (.bool true) ∧ Kept w w' := by
  have HZ1 := Lib.hid s1
  have HZ2 := Lib.hid s2
  have HE := Lib.hid hE
  have HR := Lib.hid rp0
  have HK := Lib.hid ko0
  clear s1 s2 rp0 ko0
  go_enter Tryz.func5, Tryz.ntmps5
  by_cases hb7 : (70 : Int) < n0
  · go_wp2_with fail
    refine (AsmL.l_awake _ hE).mono ?_
    rintro e w3 ⟨rfl, hb1⟩
    have HB1 := Lib.hid hb1
    clear hb1
    go_wp2
    go_ret
    exact ⟨rfl, .of_below HB1.out⟩
  · have hn0 : (n0 : Int) ≤ 70 := by omega
    clear hb7
    by_cases hb6 : (60 : Int) < n1
    · go_wp2_with fail
      refine (AsmL.l_awake _ hE).mono ?_
      rintro e w3 ⟨rfl, hb1⟩
      have HB1 := Lib.hid hb1
      clear hb1
      go_wp2
      go_ret
      exact ⟨rfl, .of_below HB1.out⟩
    · have hn1 : (n1 : Int) ≤ 60 := by omega
      clear hb6
      obtain ⟨S, hS⟩ : ∃ S, mk (disA q0).1 = S := ⟨_, rfl⟩
      obtain ⟨E, hEE⟩ : ∃ E, (disA q0).2 = E := ⟨_, rfl⟩
      have hd1 := a_disassemble A0 n0 c0 q0 l0 m0 HK.out w hE.env HR.out
      rw [hS, hEE] at hd1
      have HS := Lib.hid hS
      have HEE := Lib.hid hEE
      clear hS hEE hE
      go_upto_region 4 with (go_at_call 15; refine hd1.mono ?_; rintro e w1 ⟨rfl, hb1⟩)
      have hd2 := ra_disassemble A0 n0 c0 q0 l0 m0 HK.out w1 (HE.out.below hb1).env (HR.out.below hb1)
      rw [HS.out, HEE.out] at hd2
      clear hd1
      go_upto_region 5 with (go_at_call 16; refine hd2.mono ?_; rintro e w2 ⟨rfl, hb2⟩)
      have hb3 := below_trans2 hb1 hb2
      have hkp := PrgY.k_program A1 n1 c1 z1 30 true true w2 l1 m1 (by decide) (by decide) (ints_below HZ1.out hb3)
      rw [show ((30 : Nat) : Int) = 30 from rfl] at hkp
      have HB3 := Lib.hid hb3
      clear hd2 hb1 hb2 hb3
      go_upto_region 6 with (go_at_call 17; refine hkp.mono ?_; rintro e w3 ⟨A, c, ps, rfl, hgood, hb1⟩)
      obtain ⟨hO0, hlen, hchk, hok⟩ := made_in hgood
      obtain ⟨n, hnn⟩ : ∃ n, ps.length = n := ⟨_, rfl⟩
      rw [hnn] at hO0 hlen
      first | rw [hnn] | skip
      obtain ⟨hnc, hcm⟩ := hO0.cap
      have hBs := HB3.out.size
      obtain ⟨B, hB⟩ : ∃ B, w2.heap.size = B := ⟨_, rfl⟩
      have H0 : Hid (OwnP w3 B A n c (ps.map toIn) ∧ (∀ x ∈ ps.map toIn, DisA.OkI x) ∧ Below w.heap.size w w3) := Lib.hid ⟨hB ▸ hO0, hok, below_trans2 HB3.out hb1⟩
      rw [hB] at hBs
      have hn30 : (n : Int) ≤ 30 := by omega
      clear hO0 hchk hok hb1 hgood hkp hnn hB HB3
      go_wp2_with fail
      go_loopw [12] (fun kv wr => ∃ (k : Nat) (qs : List In), k ≤ n ∧ kv = .int .i64 k ∧ OwnP wr B A n c qs ∧ (∀ x ∈ qs, DisA.OkI x) ∧ Below w.heap.size w wr) (fun kv _ => n - (intOf kv).toNat)
      case atStart => exact ⟨0, _, by omega, rfl, H0.out.1, H0.out.2.1, H0.out.2.2⟩
      case round =>
        clear H0
        obtain ⟨k, qs, hk, rfl, ho, hi0, hb⟩ := hrel
        have HO := Lib.hid ho
        have HI := Lib.hid hi0
        have HB := Lib.hid hb
        clear ho hi0 hb
        by_cases hlt : k < n
        · have hlk : (k : Int) < n := by omega
          obtain ⟨g, x, rfl, hgB, hgl, hx, d0, d1, d2, d3, d4, df⟩ := HO.out.five hlt
          have hxO := HI.out x (List.mem_of_getElem? hx)
          obtain ⟨op, xa, xb, xc, xi⟩ := x
          simp only at d0 d1 d2 d3 d4
          have HX := Lib.hid hx
          have hii : InInt xi := hxO.2.2.2.2
          obtain ⟨y, hy⟩ : ∃ y, skipsB op xa xb xc xi = y := ⟨_, rfl⟩
          obtain ⟨v, hv⟩ : ∃ v, skipsV op xa xb xc xi = v := ⟨_, rfl⟩
          have hsk := r_skips_v op xa xb xc xi v hii y hy hv wr
          clear hx hxO hii hy hv
          go_upto_region 10 with (go_at_call 18; refine hsk.mono ?_; rintro e w4 ⟨rfl, hb2⟩)
          have HO2 := Lib.hid (HO.out.below hb2)
          have HB2 := Lib.hid (HB.out.trans (hb2.mono HB.out.size))
          have df2 : w4.frozen? ⟨g, k * 5 + 4, none⟩ = false := by
            obtain ⟨g', x', e1, _, _, _, _, _, _, _, _, df'⟩ := HO2.out.five hlt
            injection e1 with e1
            injection e1 with e1
            rw [e1]
            exact df'
          have d42 : w4.cell? ⟨g, k * 5 + 4, none⟩ = some (.int .i64 xi) := (World.cell?_of_block (hb2.block g hgl)).trans d4
          clear hsk d0 d1 d2 d3 d4 df hb2
          cases y with
          | false =>
            go_wp2_with fail
            go_roundw
            case rel => exact ⟨k + 1, qs, by omega, by go_num, HO2.out, HI.out, HB2.out⟩
            case measure => simp [intOf]; omega
          | true =>
            by_cases hs : (k : Int) < n2
            · obtain ⟨tb, toff, tx, rfl, htb, htc⟩ := iat HZ2.out HB2.out (show k < n2 by omega)
              obtain ⟨t, ht⟩ : ∃ t, pl tx 40 = t := ⟨_, rfl⟩
              have hin := pl_in tx 40 (by decide) (by decide)
              rw [ht] at hin
              have hpl := IsaL.k_place tx 40 t (by decide) (by decide) ht
              have hput := HO2.out.put hlt t
              have hB3 := HB2.out.setCell (p := ⟨g, k * 5 + 4, none⟩) (Nat.le_trans hBs hgB) (.int .i64 t)
              have hI3 : ∀ x ∈ setImm qs k t, DisA.OkI x := setImm_mem HI.out fun x hx => ok_any (HI.out x (List.mem_of_getElem? hx)) (by omega) (by omega)
              have HP := Lib.hid hput
              have HB3 := Lib.hid hB3
              have HI3 := Lib.hid hI3
              clear ht hput hB3 hI3
              go_wp2_with (go_at_call 14; (with_reducible refine (hpl _).mono ?_); rintro e w5 ⟨rfl, rfl⟩)
              go_roundw
              case rel => exact ⟨k + 1, _, by omega, by go_num, HP.out, HI3.out, HB3.out⟩
              case measure => simp [intOf]; omega
            · go_wp2_with fail
              go_roundw
              case rel => exact ⟨k + 1, qs, by omega, by go_num, HO2.out, HI.out, HB2.out⟩
              case measure => simp [intOf]; omega
        · obtain rfl : k = n := by omega
          have hEr := HE.out.old (.of_below HB.out)
          have hd3 := a_disassemble A k c qs hnc hcm HI.out wr hEr.env HO.out.row
          have HER := Lib.hid hEr
          obtain ⟨S2, hS2⟩ : ∃ S, mk (disA qs).1 = S := ⟨_, rfl⟩
          obtain ⟨E2, hE2⟩ : ∃ E, (disA qs).2 = E := ⟨_, rfl⟩
          rw [hS2, hE2] at hd3
          have HS2 := Lib.hid hS2
          have HE2 := Lib.hid hE2
          clear hlt hk hEr hS2 hE2
          go_upto_region 13 with (go_at_call 15; refine hd3.mono ?_; rintro e w6 ⟨rfl, hb4⟩)
          have hd4 := ra_disassemble A k c qs hnc hcm HI.out w6 (HER.out.below hb4).env (HO.out.row.below hb4)
          rw [HS2.out, HE2.out] at hd4
          clear hd3
          go_upto_region 14 with (go_at_call 16; refine hd4.mono ?_; rintro e w7 ⟨rfl, hb5⟩)
          have hb6 := below_trans2 hb4 hb5
          have HE7 := Lib.hid (HER.out.below hb6)
          have HBB := Lib.hid (HB.out.trans (hb6.mono HB.out.size))
          clear hd4 hb4 hb5 hb6
          go_wp2_with (go_at_call 8; refine (AsmL.l_awake _ HE7.out).mono ?_; rintro e w8 ⟨rfl, hb8⟩)
          go_ret
          exact ⟨rfl, Kept.of_below (HBB.out.trans (hb8.mono HBB.out.size))⟩

/-! The heap that lays the listed variables meets the row's condition. -/
theorem laid_met (os : Os) (args : Array Value) : laidMetH Tryz.prog [("math/bits.deBruijn32tab", Rows.laid_math_bits_deBruijn32tab), ("math/bits.deBruijn64tab", Rows.laid_math_bits_deBruijn64tab), ("internal/strconv.uint64pow10", Rows.laid_internal_strconv_uint64pow10), ("unicode/utf8.acceptRanges", Rows.laid_unicode_utf8_acceptRanges), ("strconv.ErrRange", Rows.laid_strconv_ErrRange), ("strconv.ErrSyntax", Rows.laid_strconv_ErrSyntax), ("strongtx/alu.names", Rows.laid_strongtx_alu_names), ("strongtx/isa.shapes", Rows.laid_strongtx_isa_shapes), ("unicode/utf8.first", Rows.laid_unicode_utf8_first)] ((World.laidAll Tryz.prog os [("math/bits.deBruijn32tab", Rows.laid_math_bits_deBruijn32tab), ("math/bits.deBruijn64tab", Rows.laid_math_bits_deBruijn64tab), ("internal/strconv.uint64pow10", Rows.laid_internal_strconv_uint64pow10), ("unicode/utf8.acceptRanges", Rows.laid_unicode_utf8_acceptRanges), ("strconv.ErrRange", Rows.laid_strconv_ErrRange), ("strconv.ErrSyntax", Rows.laid_strconv_ErrSyntax), ("strongtx/alu.names", Rows.laid_strongtx_alu_names), ("strongtx/isa.shapes", Rows.laid_strongtx_isa_shapes), ("unicode/utf8.first", Rows.laid_unicode_utf8_first)]).forCall (fun _ _ => 0) ⟨#[], args, []⟩).memory := by
  rw [MakeChecks.laidMetH_plain _ _ _ (by kernel_rfl)]
  exact laidMet_laidAll _ (by kernel_rfl) (by kernel_rfl)

/-! The row's step. -/
set_option maxRecDepth 100000 in
theorem lifted (os : Os) (started : os.Started) (H : Type) (enc : TypeId × Value → H) :
    ReturnsInHanded {} Tryz.checked os 5 .any (fun w args => (Rows.asmDisassemblesSpec.pre enc Tryz.prog Tryz.f5 Rows.asmDisassemblesRow.domain false w args ∧ laidMetH Tryz.prog [("math/bits.deBruijn32tab", Rows.laid_math_bits_deBruijn32tab), ("math/bits.deBruijn64tab", Rows.laid_math_bits_deBruijn64tab), ("internal/strconv.uint64pow10", Rows.laid_internal_strconv_uint64pow10), ("unicode/utf8.acceptRanges", Rows.laid_unicode_utf8_acceptRanges), ("strconv.ErrRange", Rows.laid_strconv_ErrRange), ("strconv.ErrSyntax", Rows.laid_strconv_ErrSyntax), ("strongtx/alu.names", Rows.laid_strongtx_alu_names), ("strongtx/isa.shapes", Rows.laid_strongtx_isa_shapes), ("unicode/utf8.first", Rows.laid_unicode_utf8_first)] w) ∧ sizedMet enc Tryz.prog Tryz.f5 (OpenSpec.ofChange Rows.asmDisassemblesSpec) false w args)
      (Rows.asmDisassemblesSpec.post enc Tryz.prog Tryz.f5 false true false false) := by
  refine AsmW.step_listed (C := Tryz.checked) (X := fun w _ => laidMetH Tryz.prog [("math/bits.deBruijn32tab", Rows.laid_math_bits_deBruijn32tab), ("math/bits.deBruijn64tab", Rows.laid_math_bits_deBruijn64tab), ("internal/strconv.uint64pow10", Rows.laid_internal_strconv_uint64pow10), ("unicode/utf8.acceptRanges", Rows.laid_unicode_utf8_acceptRanges), ("strconv.ErrRange", Rows.laid_strconv_ErrRange), ("strconv.ErrSyntax", Rows.laid_strconv_ErrSyntax), ("strongtx/alu.names", Rows.laid_strongtx_alu_names), ("strongtx/isa.shapes", Rows.laid_strongtx_isa_shapes), ("unicode/utf8.first", Rows.laid_unicode_utf8_first)] w) (fun _ _ _ hh h => h.of_heap hh) own started (by kernel_rfl) Tryz.func5
    (ChangeSpec.witness_shaped (enc := enc) (C := Tryz.checked) (os := os) (X := fun w _ => laidMetH Tryz.prog [("math/bits.deBruijn32tab", Rows.laid_math_bits_deBruijn32tab), ("math/bits.deBruijn64tab", Rows.laid_math_bits_deBruijn64tab), ("internal/strconv.uint64pow10", Rows.laid_internal_strconv_uint64pow10), ("unicode/utf8.acceptRanges", Rows.laid_unicode_utf8_acceptRanges), ("strconv.ErrRange", Rows.laid_strconv_ErrRange), ("strconv.ErrSyntax", Rows.laid_strconv_ErrSyntax), ("strongtx/alu.names", Rows.laid_strongtx_alu_names), ("strongtx/isa.shapes", Rows.laid_strongtx_isa_shapes), ("unicode/utf8.first", Rows.laid_unicode_utf8_first)] w) false (World.laidAll Tryz.prog os [("math/bits.deBruijn32tab", Rows.laid_math_bits_deBruijn32tab), ("math/bits.deBruijn64tab", Rows.laid_math_bits_deBruijn64tab), ("internal/strconv.uint64pow10", Rows.laid_internal_strconv_uint64pow10), ("unicode/utf8.acceptRanges", Rows.laid_unicode_utf8_acceptRanges), ("strconv.ErrRange", Rows.laid_strconv_ErrRange), ("strconv.ErrSyntax", Rows.laid_strconv_ErrSyntax), ("strongtx/alu.names", Rows.laid_strongtx_alu_names), ("strongtx/isa.shapes", Rows.laid_strongtx_isa_shapes), ("unicode/utf8.first", Rows.laid_unicode_utf8_first)]) #[.slice none 0 0, .slice none 0 0, .slice none 0 0] 8 (World.laidAll_os _ _ _) (World.shaped_of_ZipB (by kernel_rfl) (by kernel_rfl)) (by kernel_rfl) (by kernel_rfl) (by kernel_rfl) (laid_met os _)) ?_
  intro W base args ds gs before hval0 hW hL hSh
  have hval : ∀ (j : Nat) t v, Tryz.f5.params[j]? = some t → args[j]? = some v → Value.okWide Tryz.prog W .any base t v := hval0
  have hW' := hW
  obtain ⟨p, q, hA0, hV, rfl, hfz, hnd⟩ := hW
  have hA : DataW.TrodAll enc Tryz.prog W 0 (fun _ => true) true Tryz.f5.params.toList args.toList ds p := hA0
  rw [Tryz.params5] at hA hval
  obtain ⟨v0, vs0, d0, ds0, p0, q0, hargs, rfl, rfl, h0, r0⟩ := trodAll_cons hA
  obtain ⟨v1, vs1, d1, ds1, p1, q1, rfl, rfl, rfl, h1, r1⟩ := trodAll_cons r0
  obtain ⟨v2, vs2, d2, ds2, p2, q2, rfl, rfl, rfl, h2, r2⟩ := trodAll_cons r1
  obtain ⟨rfl, rfl, rfl⟩ := trodAll_nil r2
  obtain rfl : args = #[v0, v1, v2] := by cases args; simp_all
  obtain ⟨rfl, rfl⟩ := trodVars_none hV
  have hk : ∀ W', Kept W W' → Rows.asmDisassemblesSpec.post enc Tryz.prog Tryz.f5 false true false false W #[v0, v1, v2] (.bool true) W' := fun W' hb =>
    post_law laidOut readable rfl Tryz.underlying4 rfl hW' rfl hb
  clear hA0 hval0 hA hW'
  obtain ⟨A0, n0, c0, q0, rfl, l0, m0, rp0, ko0⟩ := AsmO.open_instrs (hval 0 23 v0 rfl rfl) h0
  obtain ⟨A1, n1, c1, z1, rfl, l1, m1, s1⟩ := open_slice Tryz.underlying29 Tryz.underlying3 cells3 (hval 1 29 v1 rfl rfl) h1
  obtain ⟨A2, n2, c2, z2, rfl, l2, m2, s2⟩ := open_slice Tryz.underlying29 Tryz.underlying3 cells3 (hval 2 29 v2 rfl rfl) h2
  refine (walk W (AsmW.envm_of hL hSh) A0 n0 c0 q0 l0 m0 rp0 ko0 A1 n1 c1 z1 l1 m1 s1 A2 n2 c2 z2 l2 m2 s2).mono fun e W' ⟨he, hg⟩ => ?_
  subst he
  exact ⟨_, rfl, hk W' hg⟩

theorem over : Rows.asmDisassemblesRow.holds Tryz.pinned (OpenSpec.ofChange Rows.asmDisassemblesSpec) :=
  OpenClaim.holds_of_wide 5 Tryz.f5 rfl rfl rfl rfl rfl rfl rfl ⟨rfl, rfl, rfl, rfl, rfl⟩ rfl rfl rfl rfl rfl (by kernel_rfl) Tryz.func5 (by kernel_rfl)
    (of_decide_eq_true (by kernel_rfl)) (by unfold Func.isWrapper; first | (rw [if_pos (by decide +kernel)]; kernel_rfl) | (rw [if_neg (by decide +kernel)]; exact ⟨rfl, rfl⟩))
    (fun os started H enc _ => lifted os started H enc)

/-- The row. -/
theorem row : Rows.AsmDisassemblesSaid :=
  over

/-- The statement: the tied card. -/
theorem proved : Rows.AsmDisassemblesCardSaid :=
  Claim7.holds_tied_plain_at .later [] [.data, .data, .data, .data, .sentinel, .sentinel, .data, .data, .pinned] true (true, "1ef751ac43e9856c99f1e939776a48ec7e3069089b5d180d8b7c2a31704f499a") true
    row (fun _ h => by cases h) (by kernel_rfl) (fun _ h => by cases h) asmDisassembles_row_tie rfl ⟨rfl, rfl⟩ (by kernel_rfl) rfl
    (fun f fn hf hfn => by
      obtain rfl : f = 5 := Option.some.inj ((show Tryz.prog.funcNamed "strongtx/strongtxlaw04.AsmDisassembles" = some 5 by kernel_rfl).symm.trans hf) |>.symm
      obtain rfl : fn = Tryz.f5 := (Option.some.inj (Tryz.func5.symm.trans hfn)).symm
      exact ⟨by kernel_rfl, fun j t ht => by
        rw [Tryz.params5] at ht
        have hm : t ∈ [23, 29, 29] := by simpa using Array.mem_of_getElem? ht
        have hall : ([23, 29, 29].all fun u => !Tryz.prog.wantsStandIn u) = true := by kernel_rfl
        exact (show Tryz.prog.wantsStandIn t = false by simpa using List.all_eq_true.1 hall t hm)⟩)
    (by kernel_rfl)
#print axioms proved
end Go.Proofs.YtcplhochgngedaaGreatDoor.asmDisassembles
