/-
  Proved: for instructions with small fields, of which some are valid, Uses gives registers in ascending order, Sets gives a register or -1, an invalid instruction uses and sets nothing and has no place, and one that skips has no place and sets nothing. No condition.
-/
import Derived.Test.YteccmhkjbidkpaaDoorRows
import Derived.WalkKit
import Derived.ProofKit
import Derived.OpenShut
import Derived.Test.YteccmhkjbidkpaaDoorFrame
import Derived.LaidMore
import Derived.Stop.Joined
import Derived.SevenTiedAt
import Derived.Test.YteccmhkjbidkpaaDoorTie
import Derived.Test.YteccmhkjbidkpaaDoorCards
import Derived.Test.YteccmhkjbidkpaaDoorIsaH
import Derived.Test.YteccmhkjbidkpaaDoorIsaU
namespace Go.Proofs.YteccmhkjbidkpaaDoor.isaUses
open Go.ChangeShapes Go.WideShapes Go.ChangeAt Go.RowKit
open LawFrame
open Go.ChangeMaps (open_string)
set_option linter.unusedVariables false

theorem own : ownKnob Tryd.prog.godebug = none := by kernel_rfl
theorem laidOut : laidOutB Tryd.prog = true := by kernel_rfl

open PlainT IsaE IsaS BlkW IsaA IsaB IsaF IsaP IsaQ IsaX IsaL IsaH IsaU
set_option maxHeartbeats 1000000
set_option maxRecDepth 100000
theorem pl_int (a m : Int) (h0 : 0 < m) (h1 : m ≤ 1000) : ∃ v, pl a m = v ∧ 0 ≤ v ∧ v ≤ m - 1 := ⟨_, rfl, pl_in a m h0 h1⟩
theorem hh_drew {w0 : World} {g : Nat} {op a b c i : Int} {w : World} (h : HH w0 g op a b c i w) : HH w0 g op a b c i w.drew := (held_drew h).2.2.2.2.2
theorem hh_drewN {w0 : World} {g : Nat} {op a b c i : Int} {w : World} (h : HH w0 g op a b c i w) (n : Nat) : HH w0 g op a b c i (w.drewN n) := ⟨h.1.drewN n, h.2.1.drewN n, below_drewN h.2.2 n⟩
theorem hh_keep {w0 : World} {g : Nat} {op a b c i : Int} {w w' : World} (h : HH w0 g op a b c i w) (hb : Below w.heap.size w w') : HH w0 g op a b c i w' := (held_keep (held_of h) hb).2.2.2.2.2
theorem hh_env {w0 : World} {g : Nat} {op a b c i : Int} {w : World} (h : HH w0 g op a b c i w) : Env w := h.2.1
theorem hh_below {w0 : World} {g : Nat} {op a b c i : Int} {w : World} (h : HH w0 g op a b c i w) : Below w0.heap.size w0 w := h.2.2

theorem readable : ∀ t ∈ Tryd.f8.params.toList, Tryd.prog.readableRec t = true ∧ t < Tryd.prog.types.size := by
  have h : (Tryd.f8.params.toList.all fun t => Tryd.prog.readableRec t && decide (t < Tryd.prog.types.size)) = true := by kernel_rfl
  intro t ht
  have := List.all_eq_true.1 h t ht
  simpa using this

/-! The walk. -/
theorem walk (w : World) (hL : laidMetH Tryd.prog [("math/bits.deBruijn32tab", Rows.laid_math_bits_deBruijn32tab), ("math/bits.deBruijn64tab", Rows.laid_math_bits_deBruijn64tab), ("internal/strconv.uint64pow10", Rows.laid_internal_strconv_uint64pow10), ("strconv.ErrRange", Rows.laid_strconv_ErrRange), ("strconv.ErrSyntax", Rows.laid_strconv_ErrSyntax), ("strongtx/alu.names", Rows.laid_strongtx_alu_names), ("strongtx/isa.shapes", Rows.laid_strongtx_isa_shapes)] w) (a0 : Int) (w0 : (Lit.int .i64 a0).wf = true) (a1 : Int) (w1 : (Lit.int .i64 a1).wf = true) (a2 : Int) (w2 : (Lit.int .i64 a2).wf = true) (a3 : Int) (w3 : (Lit.int .i64 a3).wf = true) (a4 : Int) (w4 : (Lit.int .i64 a4).wf = true) :
    Calls Tryd.prog 8 #[.int .i64 a0, .int .i64 a1, .int .i64 a2, .int .i64 a3, .int .i64 a4] w fun e w' => e = .returned (.bool true) ∧ Kept w w' := by
  have hE := env_of_laid hL
  clear hL
  obtain ⟨o, ho, _, _⟩ := pl_int a0 19 (by omega) (by omega)
  obtain ⟨x, hx, _, _⟩ := pl_int a1 9 (by omega) (by omega)
  obtain ⟨y, hy, _, _⟩ := pl_int a2 9 (by omega) (by omega)
  obtain ⟨z, hz, _, _⟩ := pl_int a3 9 (by omega) (by omega)
  obtain ⟨n, hn, _, _⟩ := pl_int a4 70 (by omega) (by omega)
  have HO := Lib.hid ho
  have HX := Lib.hid hx
  have HY := Lib.hid hy
  have HZ := Lib.hid hz
  have HN := Lib.hid hn
  have hasc := uses_asc o x y z (n - 2)
  have hset := sets_in o x y z (n - 2)
  have hcases : (chk o x y z (n - 2) ≠ 0 ∧ usesV o x y z (n - 2) = [] ∧ setsV o x y z (n - 2) = -1 ∧ placeV o x y z (n - 2) = 0 ∧ skipsB o x y z (n - 2) = false) ∨ (chk o x y z (n - 2) = 0 ∧ (skipsB o x y z (n - 2) = false ∨ skipsB o x y z (n - 2) = true ∧ placeV o x y z (n - 2) = 0 ∧ setsV o x y z (n - 2) = -1)) := by
    by_cases h : chk o x y z (n - 2) = 0
    · right
      refine ⟨h, ?_⟩
      cases hs : skipsB o x y z (n - 2) with
      | false => exact .inl rfl
      | true => exact .inr ⟨rfl, skips_of hs⟩
    · exact .inl ⟨h, none_of h⟩
  obtain ⟨vc, hvc⟩ : ∃ v, chk o x y z (n - 2) = v := ⟨_, rfl⟩
  obtain ⟨vs, hvs⟩ : ∃ v, setsV o x y z (n - 2) = v := ⟨_, rfl⟩
  obtain ⟨vp, hvp⟩ : ∃ v, placeV o x y z (n - 2) = v := ⟨_, rfl⟩
  obtain ⟨vk, hvk⟩ : ∃ v, skipsV o x y z (n - 2) = v := ⟨_, rfl⟩
  obtain ⟨vb, hvb⟩ : ∃ v, skipsB o x y z (n - 2) = v := ⟨_, rfl⟩
  obtain ⟨zs, hzs⟩ : ∃ v, usesV o x y z (n - 2) = v := ⟨_, rfl⟩
  rw [hvc, hvs, hvp, hvb, hzs] at hcases
  rw [hvs] at hset
  rw [hzs] at hasc
  have HC := Lib.hid hvc
  have HS := Lib.hid hvs
  have HP := Lib.hid hvp
  have HK := Lib.hid hvk
  have HB := Lib.hid hvb
  have HU := Lib.hid hzs
  have HA := Lib.hid hasc
  have HX2 := Lib.hid hcases
  clear w0 w1 w2 w3 w4 ho hx hy hz hn hvc hvs hvp hvk hvb hzs hcases
  obtain ⟨hasc1, _, _⟩ := hasc
  go_enter Tryd.func8, Tryd.ntmps8
  go_wp2_with fail
  refine (l_near _ _ _ _ _ _ _ _ _ _ HO.out HX.out HY.out HZ.out HN.out _).mono ?_
  rintro e w1 ⟨rfl, hb1⟩
  have hE1 := hE.below hb1
  have hn := held_new w1 hE1 o x y z (n - 2)
  have hbb := hb1
  clear hb1
  go_wp2_with fail
  refine (a_uses _ _ _ _ _ _ (hE1.alloc _)).mono ?_
  rintro e w2 ⟨A, m, c, rfl, hm1, hm2, hr, hb2⟩
  rw [HU.out] at hr
  have hh := (held_keep (held_of hn) hb2).2.2.2.2.2
  have hml := hr.1
  unfold maxLen at hm2
  have hm3 : m ≤ 2 := by omega
  clear hb2 hn hE hE1
  go_wp2_with fail
  go_loopw [13] (fun i wr => ∃ k : Int, (k = 0 ∨ k = 1 ∨ k = 2) ∧ k ≤ m ∧ i = .int .i64 k ∧ Row wr A m zs ∧ HH w1 w1.heap.size o x y z (n - 2) wr) (fun i _ => 3 - (intOf i).toNat)
  case atStart => exact ⟨0, .inl rfl, by omega, rfl, hr, hh⟩
  case round =>
    obtain ⟨k, hk, hkm, rfl, hR, hH⟩ := hrel
    clear hr hh
    by_cases hlt : k < m
    · obtain ⟨b, off, rfl, hbs, hc⟩ := hR.2 (by omega)
      obtain ⟨_, hreg, hasc2⟩ := HA.out
      rcases hk with rfl | rfl | rfl
      · have h0 := hreg 0 (by omega)
        have hc0 : wr.cell? ⟨b, off, none⟩ = _ := hc 0 (by omega)
        generalize zs.getD 0 0 = z0 at h0 hc0
        have hd1 : decide (z0 < 0) = false := by simp; omega
        have hd2 : decide (8 ≤ z0) = false := by simp; omega
        clear hc hreg hasc2 h0
        go_wp2
        go_quiet (fail)
        go_wp2
        go_round
        case rel => exact ⟨1, .inr (.inl rfl), by omega, rfl, hR, hh_drewN hH _⟩
        case measure => simp [intOf]
      · have hm2' : m = 2 := by omega
        have h1 := hreg 1 (by omega)
        have hc0 : wr.cell? ⟨b, off, none⟩ = _ := hc 0 (by omega)
        have hc1 := hc 1 (by omega)
        have hlt2 := hasc2 (by omega)
        subst hm2'
        generalize zs.getD 0 0 = z0 at hlt2 hc0
        generalize zs.getD 1 0 = z1 at hlt2 h1 hc1
        have hd1 : decide (z1 < 0) = false := by simp; omega
        have hd2 : decide (8 ≤ z1) = false := by simp; omega
        have hd3 : decide (z1 ≤ z0) = false := by simp; omega
        have hd4 : IntKind.i64.wrap (1 - 1) = 0 := rfl
        clear hc hreg hasc2 h1 hlt2
        go_wp2
        go_quiet (fail)
        go_wp2
        go_round
        case rel => exact ⟨2, .inr (.inr rfl), by omega, rfl, hR, hh_drewN hH _⟩
        case measure => simp [intOf]
      · omega
    · have hm0 : (m : Int) ≤ k := by omega
      clear hk
      obtain ⟨hs1, hs2⟩ := hset
      obtain ⟨_, _, _, _, _⟩ := boxed_cells hH.1
      go_wp2_with fail
      refine (a_sets_v _ _ _ _ _ _ HS.out _ hH.2.1).mono ?_
      rintro e w3 ⟨rfl, hb3⟩
      have hh3 := hh_keep hH hb3
      have hlen := hR.1
      clear hR hb3 hH
      obtain ⟨_, _, _, _, _⟩ := boxed_cells hh3.1
      rcases HX2.out with ⟨c1, rfl, rfl, rfl, rfl⟩ | ⟨rfl, rfl | ⟨rfl, rfl, rfl⟩⟩
      · obtain rfl : m = 0 := by simpa using hlen.symm
        have hvc : (vc != 0) = true := by rw [bne_iff_ne]; exact c1
        clear c1
        go_wp2_with (first
          | (go_at_call 11; (with_reducible refine (a_check_v HC.out _ (hh_env (by assumption))).mono ?_); rintro e w4 ⟨rfl, hb4⟩; have hh4 := hh_keep (by assumption) hb4; obtain ⟨_, _, _, _, _⟩ := boxed_cells hh4.1)
          | (go_at_call 18; (with_reducible refine (a_place_v _ _ _ _ _ _ HP.out _ (hh_env (by assumption))).mono ?_); rintro e w5 ⟨rfl, hb5⟩; have hh5 := hh_keep (by assumption) hb5; obtain ⟨_, _, _, _, _⟩ := boxed_cells hh5.1)
          | (go_at_call 9; (with_reducible refine (a_skips_v _ _ _ _ _ _ _ HB.out HK.out _ (hh_env (by assumption))).mono ?_); rintro e w6 ⟨rfl, hb6⟩; have hh6 := hh_keep (by assumption) hb6; obtain ⟨_, _, _, _, _⟩ := boxed_cells hh6.1)
          | (go_at_call 20; (with_reducible refine (l_awake _ (hh_env (by assumption))).mono ?_); rintro e w7 ⟨rfl, hb7⟩; have hbz := below_trans2 (hh_below (by assumption)) hb7))
        go_ret
        exact ⟨rfl, Kept.of_below (below_trans2 hbb hbz)⟩
      all_goals
        go_wp2_with (first
          | (go_at_call 11; (with_reducible refine (a_check_v HC.out _ (hh_env (by assumption))).mono ?_); rintro e w4 ⟨rfl, hb4⟩; have hh4 := hh_keep (by assumption) hb4; obtain ⟨_, _, _, _, _⟩ := boxed_cells hh4.1)
          | (go_at_call 18; (with_reducible refine (a_place_v _ _ _ _ _ _ HP.out _ (hh_env (by assumption))).mono ?_); rintro e w5 ⟨rfl, hb5⟩; have hh5 := hh_keep (by assumption) hb5; obtain ⟨_, _, _, _, _⟩ := boxed_cells hh5.1)
          | (go_at_call 9; (with_reducible refine (a_skips_v _ _ _ _ _ _ _ HB.out HK.out _ (hh_env (by assumption))).mono ?_); rintro e w6 ⟨rfl, hb6⟩; have hh6 := hh_keep (by assumption) hb6; obtain ⟨_, _, _, _, _⟩ := boxed_cells hh6.1)
          | (go_at_call 20; (with_reducible refine (l_awake _ (hh_env (by assumption))).mono ?_); rintro e w7 ⟨rfl, hb7⟩; have hbz := below_trans2 (hh_below (by assumption)) hb7))
        go_ret
        exact ⟨rfl, Kept.of_below (below_trans2 hbb hbz)⟩

/-! The heap that the program's own initialisers leave meets the row's condition. -/
theorem door_met (os : Os) (args : Array Value) : laidMetH Tryd.prog [("math/bits.deBruijn32tab", Rows.laid_math_bits_deBruijn32tab), ("math/bits.deBruijn64tab", Rows.laid_math_bits_deBruijn64tab), ("internal/strconv.uint64pow10", Rows.laid_internal_strconv_uint64pow10), ("strconv.ErrRange", Rows.laid_strconv_ErrRange), ("strconv.ErrSyntax", Rows.laid_strconv_ErrSyntax), ("strongtx/alu.names", Rows.laid_strongtx_alu_names), ("strongtx/isa.shapes", Rows.laid_strongtx_isa_shapes)] ((World.doorLaid Tryd.prog 400 os).forCall (fun _ _ => 0) ⟨#[], args, []⟩).memory :=
  laidMetH_of_parts3 (fuel := 8) (laidMet_of_run' 8 (by kernel_rfl) (by kernel_rfl)) (by kernel_rfl) (by kernel_rfl)

/-! The row's step. -/
set_option maxRecDepth 100000 in
theorem lifted (os : Os) (started : os.Started) (H : Type) (enc : TypeId × Value → H) :
    ReturnsInHanded {} Tryd.checked os 8 .any (fun w args => (Rows.isaUsesSpec.pre enc Tryd.prog Tryd.f8 Rows.isaUsesRow.domain false w args ∧ laidMetH Tryd.prog [("math/bits.deBruijn32tab", Rows.laid_math_bits_deBruijn32tab), ("math/bits.deBruijn64tab", Rows.laid_math_bits_deBruijn64tab), ("internal/strconv.uint64pow10", Rows.laid_internal_strconv_uint64pow10), ("strconv.ErrRange", Rows.laid_strconv_ErrRange), ("strconv.ErrSyntax", Rows.laid_strconv_ErrSyntax), ("strongtx/alu.names", Rows.laid_strongtx_alu_names), ("strongtx/isa.shapes", Rows.laid_strongtx_isa_shapes)] w) ∧ sizedMet enc Tryd.prog Tryd.f8 (OpenSpec.ofChange Rows.isaUsesSpec) false w args)
      (Rows.isaUsesSpec.post enc Tryd.prog Tryd.f8 false true false false) := by
  refine returnsInHanded_of_change_and (C := Tryd.checked) (X := fun w _ => laidMetH Tryd.prog [("math/bits.deBruijn32tab", Rows.laid_math_bits_deBruijn32tab), ("math/bits.deBruijn64tab", Rows.laid_math_bits_deBruijn64tab), ("internal/strconv.uint64pow10", Rows.laid_internal_strconv_uint64pow10), ("strconv.ErrRange", Rows.laid_strconv_ErrRange), ("strconv.ErrSyntax", Rows.laid_strconv_ErrSyntax), ("strongtx/alu.names", Rows.laid_strongtx_alu_names), ("strongtx/isa.shapes", Rows.laid_strongtx_isa_shapes)] w) (fun _ _ _ hh h => h.of_heap hh) own started (by kernel_rfl) Tryd.func8
    (ChangeSpec.witness_shaped (enc := enc) (C := Tryd.checked) (os := os) (X := fun w _ => laidMetH Tryd.prog [("math/bits.deBruijn32tab", Rows.laid_math_bits_deBruijn32tab), ("math/bits.deBruijn64tab", Rows.laid_math_bits_deBruijn64tab), ("internal/strconv.uint64pow10", Rows.laid_internal_strconv_uint64pow10), ("strconv.ErrRange", Rows.laid_strconv_ErrRange), ("strconv.ErrSyntax", Rows.laid_strconv_ErrSyntax), ("strongtx/alu.names", Rows.laid_strongtx_alu_names), ("strongtx/isa.shapes", Rows.laid_strongtx_isa_shapes)] w) false (World.doorLaid Tryd.prog 400 os) #[.int .i64 0, .int .i64 0, .int .i64 0, .int .i64 0, .int .i64 0] 8 rfl (World.shaped_of_RefB (by kernel_rfl) (by kernel_rfl)) (by kernel_rfl) (by kernel_rfl) (by kernel_rfl) (door_met os _)) ?_
  intro W base args ds gs before hval0 hW hcnd _ hL _
  have hval : ∀ (j : Nat) t v, Tryd.f8.params[j]? = some t → args[j]? = some v → Value.okWide Tryd.prog W .any base t v := hval0
  have hW' := hW
  obtain ⟨p, q, hA0, hV, rfl, hfz, hnd⟩ := hW
  have hA : DataW.TrodAll enc Tryd.prog W 0 (fun _ => true) true Tryd.f8.params.toList args.toList ds p := hA0
  rw [Tryd.params8] at hA hval
  obtain ⟨v0, vs0, d0, ds0, p0, q0, hargs, rfl, rfl, h0, r0⟩ := trodAll_cons hA
  obtain ⟨v1, vs1, d1, ds1, p1, q1, rfl, rfl, rfl, h1, r1⟩ := trodAll_cons r0
  obtain ⟨v2, vs2, d2, ds2, p2, q2, rfl, rfl, rfl, h2, r2⟩ := trodAll_cons r1
  obtain ⟨v3, vs3, d3, ds3, p3, q3, rfl, rfl, rfl, h3, r3⟩ := trodAll_cons r2
  obtain ⟨v4, vs4, d4, ds4, p4, q4, rfl, rfl, rfl, h4, r4⟩ := trodAll_cons r3
  obtain ⟨rfl, rfl, rfl⟩ := trodAll_nil r4
  obtain rfl : args = #[v0, v1, v2, v3, v4] := by cases args; simp_all
  obtain ⟨rfl, rfl⟩ := trodVars_none hV
  have hk : ∀ W', Kept W W' → Rows.isaUsesSpec.post enc Tryd.prog Tryd.f8 false true false false W #[v0, v1, v2, v3, v4] (.bool true) W' := fun W' hb =>
    post_law laidOut readable rfl Tryd.underlying4 rfl hW' rfl hb
  clear hA0 hval0 hA hW'
  obtain ⟨a0, rfl, rfl, rfl, w0⟩ := open_int Tryd.underlying3 (hval 0 3 v0 rfl rfl) h0
  obtain ⟨a1, rfl, rfl, rfl, w1⟩ := open_int Tryd.underlying3 (hval 1 3 v1 rfl rfl) h1
  obtain ⟨a2, rfl, rfl, rfl, w2⟩ := open_int Tryd.underlying3 (hval 2 3 v2 rfl rfl) h2
  obtain ⟨a3, rfl, rfl, rfl, w3⟩ := open_int Tryd.underlying3 (hval 3 3 v3 rfl rfl) h3
  obtain ⟨a4, rfl, rfl, rfl, w4⟩ := open_int Tryd.underlying3 (hval 4 3 v4 rfl rfl) h4
  refine (walk W hL a0 w0 a1 w1 a2 w2 a3 w3 a4 w4).mono fun e W' ⟨he, hg⟩ => ?_
  subst he
  exact ⟨_, rfl, hk W' hg⟩

theorem over : Rows.isaUsesRow.holds Tryd.pinned (OpenSpec.ofChange Rows.isaUsesSpec) :=
  OpenClaim.holds_of_wide 8 Tryd.f8 rfl rfl rfl rfl rfl rfl rfl ⟨rfl, rfl, rfl, rfl, rfl⟩ rfl rfl rfl rfl rfl (by kernel_rfl) Tryd.func8 (by kernel_rfl)
    (of_decide_eq_true (by kernel_rfl)) (by unfold Func.isWrapper; first | (rw [if_pos (by decide +kernel)]; kernel_rfl) | (rw [if_neg (by decide +kernel)]; exact ⟨rfl, rfl⟩))
    (fun os started H enc _ => lifted os started H enc)

/-- The row. -/
theorem row : Rows.IsaUsesSaid :=
  over

/-- The statement: the tied card. -/
theorem proved : Rows.IsaUsesCardSaid :=
  Claim7.holds_tied_plain_at .later [] [.data, .data, .data, .sentinel, .sentinel, .data, .data] true (true, "67b1b3513a4c7348bb2a79962359c186c20063586a8da92b2ff6acc8b69351b0") true
    row (fun _ h => by cases h) (by kernel_rfl) (fun _ h => by cases h) isaUses_row_tie rfl ⟨rfl, rfl⟩ (by kernel_rfl) rfl
    (fun f fn hf hfn => by
      obtain rfl : f = 8 := Option.some.inj ((show Tryd.prog.funcNamed "strongtx/strongtxlaw03.IsaUses" = some 8 by kernel_rfl).symm.trans hf) |>.symm
      obtain rfl : fn = Tryd.f8 := (Option.some.inj (Tryd.func8.symm.trans hfn)).symm
      exact ⟨by kernel_rfl, fun j t ht => by
        rw [Tryd.params8] at ht
        have hm : t ∈ [3, 3, 3, 3, 3] := by simpa using Array.mem_of_getElem? ht
        have hall : ([3, 3, 3, 3, 3].all fun u => !Tryd.prog.wantsStandIn u) = true := by kernel_rfl
        exact (show Tryd.prog.wantsStandIn t = false by simpa using List.all_eq_true.1 hall t hm)⟩)
    (by kernel_rfl)
#print axioms proved
end Go.Proofs.YteccmhkjbidkpaaDoor.isaUses
