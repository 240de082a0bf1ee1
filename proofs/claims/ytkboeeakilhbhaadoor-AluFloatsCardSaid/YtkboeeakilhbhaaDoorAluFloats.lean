/-
  Proved: for every two words, sums and products of floats are commutative, no float function (fadd to fmax) gives a NaN other than NaN, and a NaN among the operands gives NaN. No condition.
-/
import Derived.Test.YtkboeeakilhbhaaDoorRows
import Derived.WalkKit
import Derived.ProofKit
import Derived.OpenShut
import Derived.Test.YtkboeeakilhbhaaDoorFrame
import Derived.LaidMore
import Derived.Stop.Joined
import Derived.SevenTiedAt
import Derived.Test.YtkboeeakilhbhaaDoorTie
import Derived.Test.YtkboeeakilhbhaaDoorCards
import Derived.Test.YtkboeeakilhbhaaDoorAluLaw
namespace Go.Proofs.YtkboeeakilhbhaaDoor.aluFloats
open Go.ChangeShapes Go.WideShapes Go.ChangeAt Go.RowKit
open LawFrame
open Go.ChangeMaps (open_string)
set_option linter.unusedVariables false

theorem own : ownKnob Tryd.prog.godebug = none := by kernel_rfl
theorem laidOut : laidOutB Tryd.prog = true := by kernel_rfl

open Flt AluC TabC AluL
theorem fadd_c (x y : Int) : appV 12 x y = appV 12 y x := by
  show fw (Ieee.double.add x.toNat y.toNat) = fw (Ieee.double.add y.toNat x.toNat)
  rw [Flt.add_comm]
theorem fmul_c (x y : Int) : appV 14 x y = appV 14 y x := by
  show fw (Ieee.double.mul x.toNat y.toNat) = fw (Ieee.double.mul y.toNat x.toNat)
  rw [Flt.mul_comm]
theorem fw_nan (op : BinOp) (x y : Int) :
    (nanI (fw (floatBits op .f64 x.toNat y.toNat)) = true → fw (floatBits op .f64 x.toNat y.toNat) = 9221120237041090560) ∧ (nanI x = true ∨ nanI y = true → fw (floatBits op .f64 x.toNat y.toNat) = 9221120237041090560) := by
  constructor
  · cases h : floatBits op .f64 x.toNat y.toNat with
    | none => intro _; rfl
    | some r =>
      intro hn
      have := floatBits_not_nan h
      unfold nanI fw at hn
      simp only [Int.toNat_natCast] at hn
      rw [hn] at this
      cases this
  · intro h
    rw [floatBits_nan op x.toNat y.toNat h]
    rfl
theorem flt_nan (k : Int) (h0 : 12 ≤ k) (h1 : k < 18) (x y : Int) (hx0 : 0 ≤ x) (hx1 : x ≤ 18446744073709551615) (hy0 : 0 ≤ y) (hy1 : y ≤ 18446744073709551615) :
    (nanI (appV k x y) = true → appV k x y = 9221120237041090560) ∧ (nanI x = true ∨ nanI y = true → appV k x y = 9221120237041090560) := by
  have hc : k = 12 ∨ k = 13 ∨ k = 14 ∨ k = 15 ∨ k = 16 ∨ k = 17 := by omega
  rcases hc with rfl | rfl | rfl | rfl | rfl | rfl
  · exact fw_nan .add x y
  · exact fw_nan .sub x y
  · exact fw_nan .mul x y
  · exact fw_nan .quo x y
  · show (nanI (minV x y) = true → minV x y = 9221120237041090560) ∧ (nanI x = true ∨ nanI y = true → minV x y = 9221120237041090560)
    refine ⟨fun h => ?_, minV_nan x y⟩
    by_cases hn : nanI x = true ∨ nanI y = true
    · exact minV_nan x y hn
    · unfold minV at h
      rw [if_neg hn] at h
      split at h
      · exact absurd (.inl h) hn
      · exact absurd (.inr h) hn
  · show (nanI (maxV x y) = true → maxV x y = 9221120237041090560) ∧ (nanI x = true ∨ nanI y = true → maxV x y = 9221120237041090560)
    refine ⟨fun h => ?_, maxV_nan x y⟩
    by_cases hn : nanI x = true ∨ nanI y = true
    · exact maxV_nan x y hn
    · unfold maxV at h
      rw [if_neg hn] at h
      split at h
      · exact absurd (.inr h) hn
      · exact absurd (.inl h) hn

theorem readable : ∀ t ∈ Tryd.f7.params.toList, Tryd.prog.readableRec t = true ∧ t < Tryd.prog.types.size := by
  have h : (Tryd.f7.params.toList.all fun t => Tryd.prog.readableRec t && decide (t < Tryd.prog.types.size)) = true := by kernel_rfl
  intro t ht
  have := List.all_eq_true.1 h t ht
  simpa using this

/-! The walk. -/
theorem walk (w : World) (hL : laidMetH Tryd.prog [("strongtx/alu.names", Rows.laid_strongtx_alu_names)] w) (a0 : Int) (w0 : (Lit.int .u64 a0).wf = true) (a1 : Int) (w1 : (Lit.int .u64 a1).wf = true) :
    Calls Tryd.prog 7 #[.int .u64 a0, .int .u64 a1] w fun e w' => e = .returned (.bool true) ∧ Kept w w' := by
  have HT := tab_of_laid hL
  clear hL
  obtain ⟨b0, c0⟩ := bounds_u64 w0
  clear w0
  obtain ⟨b1, c1⟩ := bounds_u64 w1
  clear w1
  have f1 : (appV 12 a0 a1 == appV 12 a1 a0) = true := by rw [fadd_c a0 a1]; simp
  have f2 : (appV 14 a0 a1 == appV 14 a1 a0) = true := by rw [fmul_c a0 a1]; simp
  go_enter Tryd.func7, Tryd.ntmps7
  go_wp2
  go_loopw [5] (fun i wr => ∃ k : Nat, 12 ≤ k ∧ k ≤ 18 ∧ i = .int .i64 k ∧ Drawn w wr) (fun i _ => 18 - (intOf i).toNat)
  case atStart => exact ⟨12, by omega, by omega, rfl, Drawn.refl w⟩
  case round =>
    obtain ⟨k, hk0, hk, rfl, n, rfl⟩ := hrel
    by_cases hlt : k < 18
    · clear f1 f2
      have he : appE k = 0 := if_pos (by omega)
      obtain ⟨d0, d1⟩ := bd k a0 a1 b0 c0 b1 c1
      have hv := flt_nan k (by omega) (by omega) a0 a1 b0 c0 b1 c1
      by_cases ev : appV k a0 a1 = 9221120237041090560
      · clear hv
        have nv : nanI 9221120237041090560 = true := by decide +kernel
        cases n0 : nanI a0
        · cases n1 : nanI a1
          · go_wp2_with (first | (go_at_call 11; refine (a_apply _ _ _ (by omega) (by omega) (by omega) (by omega) _).mono ?_; rintro e w1 ⟨rfl, _, rfl⟩) | (go_at_call 19; (with_reducible refine (l_nan _ _ nv (by omega) (by omega) _).mono ?_); rintro e w1 ⟨rfl, rfl⟩) | (go_at_call 19; (with_reducible refine (l_nan _ _ n0 (by omega) (by omega) _).mono ?_); rintro e w1 ⟨rfl, rfl⟩) | (go_at_call 19; (with_reducible refine (l_nan _ _ n1 (by omega) (by omega) _).mono ?_); rintro e w1 ⟨rfl, rfl⟩))
            go_roundw
            case rel => exact ⟨k + 1, by omega, by omega, by go_num, _, rfl⟩
            case measure => simp [intOf]; omega
          · go_wp2_with (first | (go_at_call 11; refine (a_apply _ _ _ (by omega) (by omega) (by omega) (by omega) _).mono ?_; rintro e w1 ⟨rfl, _, rfl⟩) | (go_at_call 19; (with_reducible refine (l_nan _ _ nv (by omega) (by omega) _).mono ?_); rintro e w1 ⟨rfl, rfl⟩) | (go_at_call 19; (with_reducible refine (l_nan _ _ n0 (by omega) (by omega) _).mono ?_); rintro e w1 ⟨rfl, rfl⟩) | (go_at_call 19; (with_reducible refine (l_nan _ _ n1 (by omega) (by omega) _).mono ?_); rintro e w1 ⟨rfl, rfl⟩))
            go_roundw
            case rel => exact ⟨k + 1, by omega, by omega, by go_num, _, rfl⟩
            case measure => simp [intOf]; omega
        · go_wp2_with (first | (go_at_call 11; refine (a_apply _ _ _ (by omega) (by omega) (by omega) (by omega) _).mono ?_; rintro e w1 ⟨rfl, _, rfl⟩) | (go_at_call 19; (with_reducible refine (l_nan _ _ nv (by omega) (by omega) _).mono ?_); rintro e w1 ⟨rfl, rfl⟩) | (go_at_call 19; (with_reducible refine (l_nan _ _ n0 (by omega) (by omega) _).mono ?_); rintro e w1 ⟨rfl, rfl⟩))
          go_roundw
          case rel => exact ⟨k + 1, by omega, by omega, by go_num, _, rfl⟩
          case measure => simp [intOf]; omega
      · have nv : nanI (appV k a0 a1) = false := by
          rw [Bool.eq_false_iff]
          exact fun h => ev (hv.1 h)
        have n0 : nanI a0 = false := by
          rw [Bool.eq_false_iff]
          exact fun h => ev (hv.2 (.inl h))
        have n1 : nanI a1 = false := by
          rw [Bool.eq_false_iff]
          exact fun h => ev (hv.2 (.inr h))
        clear hv
        go_wp2_with (first | (go_at_call 11; refine (a_apply _ _ _ (by omega) (by omega) (by omega) (by omega) _).mono ?_; rintro e w1 ⟨rfl, _, rfl⟩) | (go_at_call 19; (with_reducible refine (l_nan _ _ nv (by omega) (by omega) _).mono ?_); rintro e w1 ⟨rfl, rfl⟩) | (go_at_call 19; (with_reducible refine (l_nan _ _ n0 (by omega) (by omega) _).mono ?_); rintro e w1 ⟨rfl, rfl⟩) | (go_at_call 19; (with_reducible refine (l_nan _ _ n1 (by omega) (by omega) _).mono ?_); rintro e w1 ⟨rfl, rfl⟩))
        go_roundw
        case rel => exact ⟨k + 1, by omega, by omega, by go_num, _, rfl⟩
        case measure => simp [intOf]; omega
    · go_wp2_with (first | (go_at_call 18; refine (l_at _ _ _ ⟨by omega, by omega⟩ ⟨by omega, by omega⟩ _).mono ?_; rintro e w1 ⟨rfl, _, rfl⟩) | (go_at_call 13; refine (AluL.awake _ (HT.drewN _)).mono ?_; rintro e w1 ⟨rfl, _, rfl⟩))
      go_ret
      exact ⟨rfl, rfl, rfl, Nat.le_refl _, fun _ _ => rfl⟩

/-! The heap that the program's own initialisers leave meets the row's condition. -/
theorem door_met (os : Os) (args : Array Value) : laidMetH Tryd.prog [("strongtx/alu.names", Rows.laid_strongtx_alu_names)] ((World.doorLaid Tryd.prog 400 os).forCall (fun _ _ => 0) ⟨#[], args, []⟩).memory :=
  laidMetH_of_parts3 (fuel := 8) (laidMet_of_run' 8 (by kernel_rfl) (by kernel_rfl)) (by kernel_rfl) (by kernel_rfl)

/-! The row's step. -/
set_option maxRecDepth 100000 in
theorem lifted (os : Os) (started : os.Started) (H : Type) (enc : TypeId × Value → H) :
    ReturnsInHanded {} Tryd.checked os 7 .any (fun w args => (Rows.aluFloatsSpec.pre enc Tryd.prog Tryd.f7 Rows.aluFloatsRow.domain false w args ∧ laidMetH Tryd.prog [("strongtx/alu.names", Rows.laid_strongtx_alu_names)] w) ∧ sizedMet enc Tryd.prog Tryd.f7 (OpenSpec.ofChange Rows.aluFloatsSpec) false w args)
      (Rows.aluFloatsSpec.post enc Tryd.prog Tryd.f7 false true false false) := by
  refine returnsInHanded_of_change_and (C := Tryd.checked) (X := fun w _ => laidMetH Tryd.prog [("strongtx/alu.names", Rows.laid_strongtx_alu_names)] w) (fun _ _ _ hh h => h.of_heap hh) own started (by kernel_rfl) Tryd.func7
    (ChangeSpec.witness_shaped (enc := enc) (C := Tryd.checked) (os := os) (X := fun w _ => laidMetH Tryd.prog [("strongtx/alu.names", Rows.laid_strongtx_alu_names)] w) false (World.doorLaid Tryd.prog 400 os) #[.int .u64 0, .int .u64 0] 8 rfl (World.shaped_of_RefB (by kernel_rfl) (by kernel_rfl)) (by kernel_rfl) (by kernel_rfl) (by kernel_rfl) (door_met os _)) ?_
  intro W base args ds gs before hval0 hW hcnd _ hL _
  have hval : ∀ (j : Nat) t v, Tryd.f7.params[j]? = some t → args[j]? = some v → Value.okWide Tryd.prog W .any base t v := hval0
  have hW' := hW
  obtain ⟨p, q, hA0, hV, rfl, hfz, hnd⟩ := hW
  have hA : DataW.TrodAll enc Tryd.prog W 0 (fun _ => true) true Tryd.f7.params.toList args.toList ds p := hA0
  rw [Tryd.params7] at hA hval
  obtain ⟨v0, vs0, d0, ds0, p0, q0, hargs, rfl, rfl, h0, r0⟩ := trodAll_cons hA
  obtain ⟨v1, vs1, d1, ds1, p1, q1, rfl, rfl, rfl, h1, r1⟩ := trodAll_cons r0
  obtain ⟨rfl, rfl, rfl⟩ := trodAll_nil r1
  obtain rfl : args = #[v0, v1] := by cases args; simp_all
  obtain ⟨rfl, rfl⟩ := trodVars_none hV
  have hk : ∀ W', Kept W W' → Rows.aluFloatsSpec.post enc Tryd.prog Tryd.f7 false true false false W #[v0, v1] (.bool true) W' := fun W' hb =>
    post_law laidOut readable rfl Tryd.underlying4 rfl hW' rfl hb
  clear hA0 hval0 hA hW'
  obtain ⟨a0, rfl, rfl, rfl, w0⟩ := open_int Tryd.underlying22 (hval 0 22 v0 rfl rfl) h0
  obtain ⟨a1, rfl, rfl, rfl, w1⟩ := open_int Tryd.underlying22 (hval 1 22 v1 rfl rfl) h1
  refine (walk W hL a0 w0 a1 w1).mono fun e W' ⟨he, hg⟩ => ?_
  subst he
  exact ⟨_, rfl, hk W' hg⟩

theorem over : Rows.aluFloatsRow.holds Tryd.pinned (OpenSpec.ofChange Rows.aluFloatsSpec) :=
  OpenClaim.holds_of_wide 7 Tryd.f7 rfl rfl rfl rfl rfl rfl rfl ⟨rfl, rfl, rfl, rfl, rfl⟩ rfl rfl rfl rfl rfl (by kernel_rfl) Tryd.func7 (by kernel_rfl)
    (of_decide_eq_true (by kernel_rfl)) (by unfold Func.isWrapper; first | (rw [if_pos (by decide +kernel)]; kernel_rfl) | (rw [if_neg (by decide +kernel)]; exact ⟨rfl, rfl⟩))
    (fun os started H enc _ => lifted os started H enc)

/-- The row. -/
theorem row : Rows.AluFloatsSaid :=
  over

/-- The statement: the tied card. -/
theorem proved : Rows.AluFloatsCardSaid :=
  Claim7.holds_tied_plain_at .later [] [.data] true (true, "013be51ec50ab88fb12a8451b9e12f0b5bcd91880598b22d630ea24a65be99af") false
    row (fun _ h => by cases h) (by kernel_rfl) (fun _ h => by cases h) aluFloats_row_tie rfl ⟨rfl, rfl⟩ (by kernel_rfl) rfl
    (fun f fn hf hfn => by
      obtain rfl : f = 7 := Option.some.inj ((show Tryd.prog.funcNamed "strongtx/strongtxlaw02.AluFloats" = some 7 by kernel_rfl).symm.trans hf) |>.symm
      obtain rfl : fn = Tryd.f7 := (Option.some.inj (Tryd.func7.symm.trans hfn)).symm
      exact ⟨by kernel_rfl, fun j t ht => by
        rw [Tryd.params7] at ht
        have hm : t ∈ [22, 22] := by simpa using Array.mem_of_getElem? ht
        have hall : ([22, 22].all fun u => !Tryd.prog.wantsStandIn u) = true := by kernel_rfl
        exact (show Tryd.prog.wantsStandIn t = false by simpa using List.all_eq_true.1 hall t hm)⟩)
    (by kernel_rfl)
#print axioms proved
end Go.Proofs.YtkboeeakilhbhaaDoor.aluFloats
