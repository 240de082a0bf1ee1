/-
  Proved: for every instruction (one at hand, and several with small fields), the text of a valid one is read as this instruction, also with spaces around it, and an invalid one has no text. No condition.
-/
import Derived.Test.YteccmhkjbidkpaaDoorRows
import Derived.WalkKit
import Derived.ProofKit
import Derived.OpenShut
import Derived.Test.YteccmhkjbidkpaaDoorFrame
import Derived.LaidMore
import Derived.Stop.Joined
import Derived.SevenTiedAt
import Derived.Test.YteccmhkjbidkpaaDoorTie
import Derived.Test.YteccmhkjbidkpaaDoorCards
import Derived.Test.YteccmhkjbidkpaaDoorIsaH
import Derived.Test.YteccmhkjbidkpaaDoorIsaR
import Derived.Deep.RegionHeld3
namespace Go.Proofs.YteccmhkjbidkpaaDoor.isaRound
open Go.ChangeShapes Go.WideShapes Go.ChangeAt Go.RowKit
open LawFrame
open Go.ChangeMaps (open_string)
set_option linter.unusedVariables false

theorem own : ownKnob Tryd.prog.godebug = none := by kernel_rfl
theorem laidOut : laidOutB Tryd.prog = true := by kernel_rfl

open PlainT IsaE IsaS BlkW IsaA IsaB IsaF IsaP IsaQ IsaX RefA IsaL IsaH IsaR
set_option maxHeartbeats 1000000
set_option maxRecDepth 100000
theorem pl_int (a m : Int) (h0 : 0 < m) (h1 : m ≤ 1000) : ∃ v, pl a m = v ∧ 0 ≤ v ∧ v ≤ m - 1 := ⟨_, rfl, pl_in a m h0 h1⟩
theorem small_in {x : Int} (h : -1000 ≤ x ∧ x ≤ 1000) : InInt x := by unfold InInt; omega
/-- Six instructions, one after the other. -/
def six (o0 x0 y0 z0 n0 o x y z v m p : Int) : Array Value := #[.int .i64 o0, .int .i64 x0, .int .i64 y0, .int .i64 z0, .int .i64 n0, .int .i64 o, .int .i64 x, .int .i64 y, .int .i64 z, .int .i64 m, .int .i64 o, .int .i64 x, .int .i64 y, .int .i64 v, .int .i64 m, .int .i64 o, .int .i64 x, .int .i64 v, .int .i64 v, .int .i64 m, .int .i64 o, .int .i64 v, .int .i64 v, .int .i64 v, .int .i64 m, .int .i64 p, .int .i64 0, .int .i64 0, .int .i64 0, .int .i64 0]
theorem six_at (o0 x0 y0 z0 n0 o x y z v m p : Int) (k : Nat) (hk : k < 6) (io0 : InInt o0) (ix0 : InInt x0) (iy0 : InInt y0) (iz0 : InInt z0) (in0 : InInt n0) (io : InInt o) (ix : InInt x) (iy : InInt y) (iz : InInt z) (iv : InInt v) (im : InInt m) (ip : InInt p) :
    ∃ a b c d e, InInt a ∧ InInt b ∧ InInt c ∧ InInt d ∧ InInt e ∧ (six o0 x0 y0 z0 n0 o x y z v m p)[k * 5]? = some (.int .i64 a) ∧ (six o0 x0 y0 z0 n0 o x y z v m p)[k * 5 + 1]? = some (.int .i64 b) ∧ (six o0 x0 y0 z0 n0 o x y z v m p)[k * 5 + 2]? = some (.int .i64 c) ∧ (six o0 x0 y0 z0 n0 o x y z v m p)[k * 5 + 3]? = some (.int .i64 d) ∧ (six o0 x0 y0 z0 n0 o x y z v m p)[k * 5 + 4]? = some (.int .i64 e) := by
  have i0 : InInt 0 := small_in (by omega)
  have : k = 0 ∨ k = 1 ∨ k = 2 ∨ k = 3 ∨ k = 4 ∨ k = 5 := by omega
  rcases this with rfl | rfl | rfl | rfl | rfl | rfl
  · exact ⟨o0, x0, y0, z0, n0, io0, ix0, iy0, iz0, in0, rfl, rfl, rfl, rfl, rfl⟩
  · exact ⟨o, x, y, z, m, io, ix, iy, iz, im, rfl, rfl, rfl, rfl, rfl⟩
  · exact ⟨o, x, y, v, m, io, ix, iy, iv, im, rfl, rfl, rfl, rfl, rfl⟩
  · exact ⟨o, x, v, v, m, io, ix, iv, iv, im, rfl, rfl, rfl, rfl, rfl⟩
  · exact ⟨o, v, v, v, m, io, iv, iv, iv, im, rfl, rfl, rfl, rfl, rfl⟩
  · exact ⟨p, 0, 0, 0, 0, ip, i0, i0, i0, i0, rfl, rfl, rfl, rfl, rfl⟩

theorem readable : ∀ t ∈ Tryd.f7.params.toList, Tryd.prog.readableRec t = true ∧ t < Tryd.prog.types.size := by
  have h : (Tryd.f7.params.toList.all fun t => Tryd.prog.readableRec t && decide (t < Tryd.prog.types.size)) = true := by kernel_rfl
  intro t ht
  have := List.all_eq_true.1 h t ht
  simpa using this

/-! The walk. -/
theorem walk (w : World) (hL : laidMetH Tryd.prog [("math/bits.deBruijn32tab", Rows.laid_math_bits_deBruijn32tab), ("math/bits.deBruijn64tab", Rows.laid_math_bits_deBruijn64tab), ("internal/strconv.uint64pow10", Rows.laid_internal_strconv_uint64pow10), ("strconv.ErrRange", Rows.laid_strconv_ErrRange), ("strconv.ErrSyntax", Rows.laid_strconv_ErrSyntax), ("strongtx/alu.names", Rows.laid_strongtx_alu_names), ("strongtx/isa.shapes", Rows.laid_strongtx_isa_shapes)] w) (o0 x0 y0 z0 n0 : Int) (wo0 : IsaF.InInt o0) (wx0 : IsaF.InInt x0) (wy0 : IsaF.InInt y0) (wz0 : IsaF.InInt z0) (wn0 : IsaF.InInt n0) (a1 : Int) (w1 : (Lit.int .i64 a1).wf = true) (a2 : Int) (w2 : (Lit.int .i64 a2).wf = true) (a3 : Int) (w3 : (Lit.int .i64 a3).wf = true) (a4 : Int) (w4 : (Lit.int .i64 a4).wf = true) (a5 : Int) (w5 : (Lit.int .i64 a5).wf = true) :
    Calls Tryd.prog 7 #[IsaA.ins o0 x0 y0 z0 n0, .int .i64 a1, .int .i64 a2, .int .i64 a3, .int .i64 a4, .int .i64 a5] w fun e w' => e = .returned (.bool true) ∧ Kept w w' := by
  show Calls _ _ #[.agg _, _, _, _, _, _] _ _
  have hE := env_of_laid hL
  clear hL
  obtain ⟨o, ho, _, _⟩ := pl_int a1 19 (by omega) (by omega)
  obtain ⟨x, hx, _, _⟩ := pl_int a2 9 (by omega) (by omega)
  obtain ⟨y, hy, _, _⟩ := pl_int a3 9 (by omega) (by omega)
  obtain ⟨z, hz, _, _⟩ := pl_int a4 9 (by omega) (by omega)
  obtain ⟨n, hn, _, _⟩ := pl_int a5 70 (by omega) (by omega)
  obtain ⟨v, hv, _, _⟩ := pl_int 0 9 (by omega) (by omega)
  obtain ⟨p, hp, _, _⟩ := pl_int a1 18 (by omega) (by omega)
  have io : InInt o := small_in (by omega)
  have ix : InInt x := small_in (by omega)
  have iy : InInt y := small_in (by omega)
  have iz : InInt z := small_in (by omega)
  have im : InInt (n - 2) := small_in (by omega)
  have iv : InInt v := small_in (by omega)
  have ip : InInt p := small_in (by omega)
  have HO := Lib.hid ho
  have HX := Lib.hid hx
  have HY := Lib.hid hy
  have HZ := Lib.hid hz
  have HN := Lib.hid hn
  have HV := Lib.hid hv
  have HP := Lib.hid hp
  clear ho hx hy hz hn hv hp w1 w2 w3 w4 w5
  have hn := held_new w hE o0 x0 y0 z0 n0
  go_enter Tryd.func7, Tryd.ntmps7
  go_wp2_with fail
  go_region_held3 (Held w w.heap.size o0 x0 y0 z0 n0) (first | assumption | exact held_drew hn | exact held_keep (by assumption) (by assumption) | exact held_keep (by assumption) (below_new _ _)) (first
    | (go_at_call 21; (with_reducible refine (l_near _ _ _ _ _ _ _ _ _ _ HO.out HX.out HY.out HZ.out HN.out _).mono ?_); rintro e wn1 ⟨rfl, hb1⟩)
    | (go_at_call 21; (with_reducible refine (l_near _ _ _ _ _ _ _ _ _ _ HO.out HX.out HY.out HV.out HN.out _).mono ?_); rintro e wn2 ⟨rfl, hb2⟩)
    | (go_at_call 21; (with_reducible refine (l_near _ _ _ _ _ _ _ _ _ _ HO.out HX.out HV.out HV.out HN.out _).mono ?_); rintro e wn3 ⟨rfl, hb3⟩)
    | (go_at_call 21; (with_reducible refine (l_near _ _ _ _ _ _ _ _ _ _ HO.out HV.out HV.out HV.out HN.out _).mono ?_); rintro e wn4 ⟨rfl, hb4⟩)
    | (go_at_call 27; (with_reducible refine (k_place _ _ _ (by omega) (by omega) HP.out _).mono ?_); rintro e wn5 ⟨rfl, rfl⟩))
  have hE4 := held_env (by assumption)
  have hb0 := held_below (by assumption)
  have hm0 : Mem (wn4.alloc (.cells (six o0 x0 y0 z0 n0 o x y z v (n - 2) p) 23)) wn4.heap.size 23 (six o0 x0 y0 z0 n0 o x y z v (n - 2) p) := Mem.new _ _ _
  clear hn hb1 hb2 hb3 hb4 hE
  go_wp2
  go_loopw [14] (fun j wr => ∃ k : Nat, k ≤ 6 ∧ j = .int .i64 k ∧ Mem wr wn4.heap.size 23 (six o0 x0 y0 z0 n0 o x y z v (n - 2) p) ∧ Env wr ∧ Below w.heap.size w wr) (fun j _ => 6 - (intOf j).toNat)
  case atStart => exact ⟨0, by omega, rfl, hm0, hE4, hb0⟩
  case round =>
    obtain ⟨k, hk, rfl, hm, hE, hb⟩ := hrel
    clear hm0 hE4 hb0
    by_cases hlt : k < 6
    · obtain ⟨a, b, c, d, e, ia, ib, ic, id', ie, e0, e1, e2, e3, e4⟩ := six_at o0 x0 y0 z0 n0 o x y z v (n - 2) p k hlt wo0 wx0 wy0 wz0 wn0 io ix iy iz iv im ip
      have E0 := Lib.hid e0
      have E1 := Lib.hid e1
      have E2 := Lib.hid e2
      have E3 := Lib.hid e3
      have E4 := Lib.hid e4
      clear e0 e1 e2 e3 e4
      have q0 := mem_at hm E0.out
      have q1 := mem_at hm E1.out
      have q2 := mem_at hm E2.out
      have q3 := mem_at hm E3.out
      have q4 := mem_at hm E4.out
      by_cases hv0 : chk a b c d e = 0
      · rcases chk_cases a b c d e with ⟨_, hk0, hk1⟩ | hh | hh
        · obtain ⟨kk, rfl⟩ := Int.eq_ofNat_of_zero_le hk0
          have hkk : kk < 18 := by omega
          have hp1 := parse_plain hkk ib ic id' ie hv0
          have hp2 := parse_around hkk ib ic id' ie hv0
          have hsz := text_size hkk ib ic id' ie hv0
          obtain ⟨s, hs⟩ : ∃ s, formatV kk b c d e = s := ⟨_, rfl⟩
          rw [hs] at hp1 hp2 hsz
          have HF := Lib.hid hs
          have HC := Lib.hid hv0
          have HP1 := Lib.hid hp1.1
          have HE1 := Lib.hid hp1.2
          have HP2 := Lib.hid hp2.1
          have HE2 := Lib.hid hp2.2
          clear hs hv0 hp1 hp2 hk0 hk1
          go_wp2_with fail
          refine (a_format _ _ _ _ _ ib ic id' ie _ hE).mono ?_
          rintro e' w2 ⟨rfl, hb2⟩
          rw [HF.out, HC.out]
          have hm2 := hm.below hb2 hm.lt
          have hE2 := hE.below hb2
          have hb2' := below_trans2 hb hb2
          clear q0 q1 q2 q3 q4 hm hE hb hb2
          have q0 := mem_at hm2 E0.out
          have q1 := mem_at hm2 E1.out
          have q2 := mem_at hm2 E2.out
          have q3 := mem_at hm2 E3.out
          have q4 := mem_at hm2 E4.out
          go_wp2_with fail
          refine (r_check_v ie HC.out _).mono ?_
          rintro e' w3 ⟨rfl, hb3⟩
          have hm3 := hm2.below hb3 hm2.lt
          have hE3 := hE2.below hb3
          have hb3' := below_trans2 hb2' hb3
          clear q0 q1 q2 q3 q4 hm2 hE2 hb2' hb3
          go_wp2_with fail
          refine (a_parse _ _ hE3).mono ?_
          rintro e' w4 ⟨hb4, rfl⟩
          rw [HP1.out, HE1.out]
          unfold insR
          dsimp only
          have hm4 := (hm3.below hb4 hm3.lt).alloc (.cells (boxed kk b c d e) 23)
          have hx4 := Mem.new w4 23 (boxed kk b c d e)
          have hb4' := (below_trans2 hb3' hb4)
          have hb4'' := hb4'.alloc hb4'.size (.cells (boxed kk b c d e) 23)
          have hE4 := (hE3.below hb4).alloc (.cells (boxed kk b c d e) 23)
          clear hm3 hE3 hb3' hb4 hb4'
          unfold boxed at hE4
          go_wp2_with fail
          refine (a_parse _ _ hE4).mono ?_
          rintro e' w5 ⟨hb5, rfl⟩
          rw [HP2.out, HE2.out]
          unfold insR
          dsimp only
          have hm5 := (hm4.below hb5 hm4.lt).alloc (.cells (boxed kk b c d e) 23)
          have hx5 := (hx4.below hb5 hx4.lt).alloc (.cells (boxed kk b c d e) 23)
          have hy5 := Mem.new w5 23 (boxed kk b c d e)
          have hb5' := (below_trans2 hb4'' hb5)
          have hb5'' := hb5'.alloc hb5'.size (.cells (boxed kk b c d e) 23)
          have hE5 := (hE4.below hb5).alloc (.cells (boxed kk b c d e) 23)
          have q0 := mem_at hm5 E0.out
          have q1 := mem_at hm5 E1.out
          have q2 := mem_at hm5 E2.out
          have q3 := mem_at hm5 E3.out
          have q4 := mem_at hm5 E4.out
          obtain ⟨x0', x1', x2', x3', x4'⟩ := boxed_cells hx5
          obtain ⟨y0', y1', y2', y3', y4'⟩ := boxed_cells hy5
          clear hm4 hx4 hb4'' hE4 hb5 hx5 hy5 hb5'
          unfold boxed at q0 q1 q2 q3 q4 x0' x1' x2' x3' x4' y0' y1' y2' y3' y4'
          go_wp2_with fail
          go_quiet (fail)
          go_wp2
          go_round
          case rel => exact ⟨k + 1, by omega, by go_num, hm5, hE5.drewN _, below_drewN hb5'' _⟩
          case measure => simp [intOf]; omega
        · rw [hv0] at hh; cases hh
        · rw [hv0] at hh; cases hh
      · obtain ⟨vc, hvc⟩ : ∃ vc, chk a b c d e = vc := ⟨_, rfl⟩
        have HF := Lib.hid (show formatV a b c d e = ⟨#[]⟩ by unfold formatV; rw [if_neg hv0])
        rw [hvc] at hv0
        have HC := Lib.hid hvc
        have hne : (vc != 0) = true := by rw [bne_iff_ne]; exact hv0
        have heq : (vc == 0) = false := by rw [beq_eq_false_iff_ne]; exact hv0
        clear hvc hv0
        go_wp2_with fail
        refine (a_format _ _ _ _ _ ib ic id' ie _ hE).mono ?_
        rintro e w2 ⟨rfl, hb2⟩
        rw [HF.out, HC.out]
        have hm2 := hm.below hb2 hm.lt
        have hE2 := hE.below hb2
        have hb2' := below_trans2 hb hb2
        clear q0 q1 q2 q3 q4 hm hE hb hb2
        have q0 := mem_at hm2 E0.out
        have q1 := mem_at hm2 E1.out
        have q2 := mem_at hm2 E2.out
        have q3 := mem_at hm2 E3.out
        have q4 := mem_at hm2 E4.out
        go_wp2_with fail
        refine (r_check_v ie HC.out _).mono ?_
        rintro e w3 ⟨rfl, hb3⟩
        have hm3 := hm2.below hb3 hm2.lt
        have hE3 := hE2.below hb3
        have hb3' := below_trans2 hb2' hb3
        clear q0 q1 q2 q3 q4 hm2 hE2 hb2' hb3
        go_wp2
        go_round
        case rel => exact ⟨k + 1, by omega, by go_num, hm3, hE3, hb3'⟩
        case measure => simp [intOf]; omega
    · go_wp2_with fail
      refine (l_awake _ hE).mono ?_
      rintro e w2 ⟨rfl, hb2⟩
      have hbz := below_trans2 hb hb2
      go_wp2
      go_ret
      exact ⟨rfl, Kept.of_below hbz⟩

/-! The heap that the program's own initialisers leave meets the row's condition. -/
theorem door_met (os : Os) (args : Array Value) : laidMetH Tryd.prog [("math/bits.deBruijn32tab", Rows.laid_math_bits_deBruijn32tab), ("math/bits.deBruijn64tab", Rows.laid_math_bits_deBruijn64tab), ("internal/strconv.uint64pow10", Rows.laid_internal_strconv_uint64pow10), ("strconv.ErrRange", Rows.laid_strconv_ErrRange), ("strconv.ErrSyntax", Rows.laid_strconv_ErrSyntax), ("strongtx/alu.names", Rows.laid_strongtx_alu_names), ("strongtx/isa.shapes", Rows.laid_strongtx_isa_shapes)] ((World.doorLaid Tryd.prog 400 os).forCall (fun _ _ => 0) ⟨#[], args, []⟩).memory :=
  laidMetH_of_parts3 (fuel := 8) (laidMet_of_run' 8 (by kernel_rfl) (by kernel_rfl)) (by kernel_rfl) (by kernel_rfl)

/-! The row's step. -/
set_option maxRecDepth 100000 in
theorem lifted (os : Os) (started : os.Started) (H : Type) (enc : TypeId × Value → H) :
    ReturnsInHanded {} Tryd.checked os 7 .any (fun w args => (Rows.isaRoundSpec.pre enc Tryd.prog Tryd.f7 Rows.isaRoundRow.domain false w args ∧ laidMetH Tryd.prog [("math/bits.deBruijn32tab", Rows.laid_math_bits_deBruijn32tab), ("math/bits.deBruijn64tab", Rows.laid_math_bits_deBruijn64tab), ("internal/strconv.uint64pow10", Rows.laid_internal_strconv_uint64pow10), ("strconv.ErrRange", Rows.laid_strconv_ErrRange), ("strconv.ErrSyntax", Rows.laid_strconv_ErrSyntax), ("strongtx/alu.names", Rows.laid_strongtx_alu_names), ("strongtx/isa.shapes", Rows.laid_strongtx_isa_shapes)] w) ∧ sizedMet enc Tryd.prog Tryd.f7 (OpenSpec.ofChange Rows.isaRoundSpec) false w args)
      (Rows.isaRoundSpec.post enc Tryd.prog Tryd.f7 false true false false) := by
  refine returnsInHanded_of_change_and (C := Tryd.checked) (X := fun w _ => laidMetH Tryd.prog [("math/bits.deBruijn32tab", Rows.laid_math_bits_deBruijn32tab), ("math/bits.deBruijn64tab", Rows.laid_math_bits_deBruijn64tab), ("internal/strconv.uint64pow10", Rows.laid_internal_strconv_uint64pow10), ("strconv.ErrRange", Rows.laid_strconv_ErrRange), ("strconv.ErrSyntax", Rows.laid_strconv_ErrSyntax), ("strongtx/alu.names", Rows.laid_strongtx_alu_names), ("strongtx/isa.shapes", Rows.laid_strongtx_isa_shapes)] w) (fun _ _ _ hh h => h.of_heap hh) own started (by kernel_rfl) Tryd.func7
    (ChangeSpec.witness_shaped (enc := enc) (C := Tryd.checked) (os := os) (X := fun w _ => laidMetH Tryd.prog [("math/bits.deBruijn32tab", Rows.laid_math_bits_deBruijn32tab), ("math/bits.deBruijn64tab", Rows.laid_math_bits_deBruijn64tab), ("internal/strconv.uint64pow10", Rows.laid_internal_strconv_uint64pow10), ("strconv.ErrRange", Rows.laid_strconv_ErrRange), ("strconv.ErrSyntax", Rows.laid_strconv_ErrSyntax), ("strongtx/alu.names", Rows.laid_strongtx_alu_names), ("strongtx/isa.shapes", Rows.laid_strongtx_isa_shapes)] w) false (World.doorLaid Tryd.prog 400 os) #[.agg #[.int .i64 0, .int .i64 0, .int .i64 0, .int .i64 0, .int .i64 0], .int .i64 0, .int .i64 0, .int .i64 0, .int .i64 0, .int .i64 0] 8 rfl (World.shaped_of_RefB (by kernel_rfl) (by kernel_rfl)) (by kernel_rfl) (by kernel_rfl) (by kernel_rfl) (door_met os _)) ?_
  intro W base args ds gs before hval0 hW hcnd _ hL _
  have hval : ∀ (j : Nat) t v, Tryd.f7.params[j]? = some t → args[j]? = some v → Value.okWide Tryd.prog W .any base t v := hval0
  have hW' := hW
  obtain ⟨p, q, hA0, hV, rfl, hfz, hnd⟩ := hW
  have hA : DataW.TrodAll enc Tryd.prog W 0 (fun _ => true) true Tryd.f7.params.toList args.toList ds p := hA0
  rw [Tryd.params7] at hA hval
  obtain ⟨v0, vs0, d0, ds0, p0, q0, hargs, rfl, rfl, h0, r0⟩ := trodAll_cons hA
  obtain ⟨v1, vs1, d1, ds1, p1, q1, rfl, rfl, rfl, h1, r1⟩ := trodAll_cons r0
  obtain ⟨v2, vs2, d2, ds2, p2, q2, rfl, rfl, rfl, h2, r2⟩ := trodAll_cons r1
  obtain ⟨v3, vs3, d3, ds3, p3, q3, rfl, rfl, rfl, h3, r3⟩ := trodAll_cons r2
  obtain ⟨v4, vs4, d4, ds4, p4, q4, rfl, rfl, rfl, h4, r4⟩ := trodAll_cons r3
  obtain ⟨v5, vs5, d5, ds5, p5, q5, rfl, rfl, rfl, h5, r5⟩ := trodAll_cons r4
  obtain ⟨rfl, rfl, rfl⟩ := trodAll_nil r5
  obtain rfl : args = #[v0, v1, v2, v3, v4, v5] := by cases args; simp_all
  obtain ⟨rfl, rfl⟩ := trodVars_none hV
  have hk : ∀ W', Kept W W' → Rows.isaRoundSpec.post enc Tryd.prog Tryd.f7 false true false false W #[v0, v1, v2, v3, v4, v5] (.bool true) W' := fun W' hb =>
    post_law laidOut readable rfl Tryd.underlying4 rfl hW' rfl hb
  clear hA0 hval0 hA hW'
  obtain ⟨o0, x0, y0, z0, n0, rfl, wo0, wx0, wy0, wz0, wn0⟩ := IsaH.open_ins (hval 0 23 v0 rfl rfl) h0
  obtain ⟨a1, rfl, rfl, rfl, w1⟩ := open_int Tryd.underlying3 (hval 1 3 v1 rfl rfl) h1
  obtain ⟨a2, rfl, rfl, rfl, w2⟩ := open_int Tryd.underlying3 (hval 2 3 v2 rfl rfl) h2
  obtain ⟨a3, rfl, rfl, rfl, w3⟩ := open_int Tryd.underlying3 (hval 3 3 v3 rfl rfl) h3
  obtain ⟨a4, rfl, rfl, rfl, w4⟩ := open_int Tryd.underlying3 (hval 4 3 v4 rfl rfl) h4
  obtain ⟨a5, rfl, rfl, rfl, w5⟩ := open_int Tryd.underlying3 (hval 5 3 v5 rfl rfl) h5
  refine (walk W hL o0 x0 y0 z0 n0 wo0 wx0 wy0 wz0 wn0 a1 w1 a2 w2 a3 w3 a4 w4 a5 w5).mono fun e W' ⟨he, hg⟩ => ?_
  subst he
  exact ⟨_, rfl, hk W' hg⟩

theorem over : Rows.isaRoundRow.holds Tryd.pinned (OpenSpec.ofChange Rows.isaRoundSpec) :=
  OpenClaim.holds_of_wide 7 Tryd.f7 rfl rfl rfl rfl rfl rfl rfl ⟨rfl, rfl, rfl, rfl, rfl⟩ rfl rfl rfl rfl rfl (by kernel_rfl) Tryd.func7 (by kernel_rfl)
    (of_decide_eq_true (by kernel_rfl)) (by unfold Func.isWrapper; first | (rw [if_pos (by decide +kernel)]; kernel_rfl) | (rw [if_neg (by decide +kernel)]; exact ⟨rfl, rfl⟩))
    (fun os started H enc _ => lifted os started H enc)

/-- The row. -/
theorem row : Rows.IsaRoundSaid :=
  over

/-- The statement: the tied card. -/
theorem proved : Rows.IsaRoundCardSaid :=
  Claim7.holds_tied_plain_at .later [] [.data, .data, .data, .sentinel, .sentinel, .data, .data] true (true, "67b1b3513a4c7348bb2a79962359c186c20063586a8da92b2ff6acc8b69351b0") true
    row (fun _ h => by cases h) (by kernel_rfl) (fun _ h => by cases h) isaRound_row_tie rfl ⟨rfl, rfl⟩ (by kernel_rfl) rfl
    (fun f fn hf hfn => by
      obtain rfl : f = 7 := Option.some.inj ((show Tryd.prog.funcNamed "strongtx/strongtxlaw03.IsaRound" = some 7 by kernel_rfl).symm.trans hf) |>.symm
      obtain rfl : fn = Tryd.f7 := (Option.some.inj (Tryd.func7.symm.trans hfn)).symm
      exact ⟨by kernel_rfl, fun j t ht => by
        rw [Tryd.params7] at ht
        have hm : t ∈ [23, 3, 3, 3, 3, 3] := by simpa using Array.mem_of_getElem? ht
        have hall : ([23, 3, 3, 3, 3, 3].all fun u => !Tryd.prog.wantsStandIn u) = true := by kernel_rfl
        exact (show Tryd.prog.wantsStandIn t = false by simpa using List.all_eq_true.1 hall t hm)⟩)
    (by kernel_rfl)
#print axioms proved
end Go.Proofs.YteccmhkjbidkpaaDoor.isaRound
