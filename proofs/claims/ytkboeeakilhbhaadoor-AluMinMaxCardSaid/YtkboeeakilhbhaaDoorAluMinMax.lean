/-
  Proved: for every two words, fmin and fmax do not depend on the order of the arguments; they are NaN if one is a NaN, and otherwise the two words, the first not greater than the second; and fmin of +0 and -0 is -0. No condition.
-/
import Derived.Test.YtkboeeakilhbhaaDoorRows
import Derived.WalkKit
import Derived.ProofKit
import Derived.OpenShut
import Derived.Test.YtkboeeakilhbhaaDoorFrame
import Derived.LaidMore
import Derived.Stop.Joined
import Derived.SevenTiedAt
import Derived.Test.YtkboeeakilhbhaaDoorTie
import Derived.Test.YtkboeeakilhbhaaDoorCards
import Derived.Test.YtkboeeakilhbhaaDoorAluLaw
namespace Go.Proofs.YtkboeeakilhbhaaDoor.aluMinMax
open Go.ChangeShapes Go.WideShapes Go.ChangeAt Go.RowKit
open LawFrame
open Go.ChangeMaps (open_string)
set_option linter.unusedVariables false

theorem own : ownKnob Tryd.prog.godebug = none := by kernel_rfl
theorem laidOut : laidOutB Tryd.prog = true := by kernel_rfl

open Flt AluC TabC AluL
theorem first_swap (x y : Int) (hx0 : 0 ≤ x) (hx1 : x ≤ 18446744073709551615) (hy0 : 0 ≤ y) (hy1 : y ≤ 18446744073709551615) (h : x ≠ y) : first y x = !(first x y) := by
  have hk := key_inj x y hx0 hx1 hy0 hy1
  rcases Int.lt_trichotomy (keyI x) (keyI y) with k | k | k
  · rw [first_lt x y k, first_gt y x k]; rfl
  · rcases hk k with e | ⟨rfl, rfl⟩ | ⟨rfl, rfl⟩
    · exact absurd e h
    · decide +kernel
    · decide +kernel
  · rw [first_gt x y k, first_lt y x k]; rfl
theorem first_not {x y : Int} (h : first x y = false) : decide (keyI x < keyI y) = false := by
  unfold first at h
  have := of_decide_eq_false h
  exact decide_eq_false (by omega)

theorem readable : ∀ t ∈ Tryd.f8.params.toList, Tryd.prog.readableRec t = true ∧ t < Tryd.prog.types.size := by
  have h : (Tryd.f8.params.toList.all fun t => Tryd.prog.readableRec t && decide (t < Tryd.prog.types.size)) = true := by kernel_rfl
  intro t ht
  have := List.all_eq_true.1 h t ht
  simpa using this

/-! The walk. -/
theorem walk (w : World) (hL : laidMetH Tryd.prog [("strongtx/alu.names", Rows.laid_strongtx_alu_names)] w) (a0 : Int) (w0 : (Lit.int .u64 a0).wf = true) (a1 : Int) (w1 : (Lit.int .u64 a1).wf = true) :
    Calls Tryd.prog 8 #[.int .u64 a0, .int .u64 a1] w fun e w' => e = .returned (.bool true) ∧ Kept w w' := by
  have HT := tab_of_laid hL
  clear hL
  obtain ⟨b0, c0⟩ := bounds_u64 w0
  clear w0
  obtain ⟨b1, c1⟩ := bounds_u64 w1
  clear w1
  have hz : appV 16 0 9223372036854775808 = 9223372036854775808 := by decide +kernel
  cases n0 : nanI a0
  · cases n1 : nanI a1
    · by_cases hxy : a0 = a1
      · subst hxy
        have e1 : appV 16 a0 a0 = a0 := by show minV a0 a0 = a0; unfold minV; rw [if_neg (by rw [n0]; simp)]; split <;> rfl
        have e2 : appV 17 a0 a0 = a0 := by show maxV a0 a0 = a0; unfold maxV; rw [if_neg (by rw [n0]; simp)]; split <;> rfl
        have e3 : appV 19 a0 a0 = 0 := by show tr (ltV a0 a0) = 0; rw [ltV_num a0 a0 n0 n0]; simp [tr]
        go_enter Tryd.func8, Tryd.ntmps8
        go_wp2_with (first | (go_at_call 18; refine (l_at _ _ _ ⟨by omega, by omega⟩ ⟨by omega, by omega⟩ _).mono ?_; rintro e w1 ⟨rfl, _, rfl⟩) | (go_at_call 19; (with_reducible refine (l_nan _ _ n0 (by omega) (by omega) _).mono ?_); rintro e w1 ⟨rfl, rfl⟩) | (go_at_call 13; refine (AluL.awake _ (HT.drewN _)).mono ?_; rintro e w1 ⟨rfl, _, rfl⟩))
        go_ret
        exact ⟨rfl, rfl, rfl, Nat.le_refl _, fun _ _ => rfl⟩
      · have q1 : (a0 == a1) = false := by rw [beq_eq_false_iff_ne]; exact hxy
        have q2 : (a1 == a0) = false := by rw [beq_eq_false_iff_ne]; exact fun h => hxy h.symm
        have hs := first_swap a0 a1 b0 c0 b1 c1 hxy
        cases hf : first a0 a1
        · rw [hf] at hs
          have e1 : appV 16 a0 a1 = a1 := minV_second a0 a1 n0 n1 hf
          have e2 : appV 17 a0 a1 = a0 := maxV_second a0 a1 n0 n1 hf
          have e3 : appV 16 a1 a0 = a1 := minV_first a1 a0 n1 n0 hs
          have e4 : appV 17 a1 a0 = a0 := maxV_first a1 a0 n1 n0 hs
          have e5 : appV 19 a0 a1 = 0 := by show tr (ltV a0 a1) = 0; rw [ltV_num a0 a1 n0 n1, first_not hf]; rfl
          clear hxy hf hs
          go_enter Tryd.func8, Tryd.ntmps8
          go_wp2_with (first | (go_at_call 18; refine (l_at _ _ _ ⟨by omega, by omega⟩ ⟨by omega, by omega⟩ _).mono ?_; rintro e w1 ⟨rfl, _, rfl⟩) | (go_at_call 19; (with_reducible refine (l_nan _ _ n0 (by omega) (by omega) _).mono ?_); rintro e w1 ⟨rfl, rfl⟩) | (go_at_call 19; (with_reducible refine (l_nan _ _ n1 (by omega) (by omega) _).mono ?_); rintro e w1 ⟨rfl, rfl⟩) | (go_at_call 13; refine (AluL.awake _ (HT.drewN _)).mono ?_; rintro e w1 ⟨rfl, _, rfl⟩))
          go_ret
          exact ⟨rfl, rfl, rfl, Nat.le_refl _, fun _ _ => rfl⟩
        · rw [hf] at hs
          have e1 : appV 16 a0 a1 = a0 := minV_first a0 a1 n0 n1 hf
          have e2 : appV 17 a0 a1 = a1 := maxV_first a0 a1 n0 n1 hf
          have e3 : appV 16 a1 a0 = a0 := minV_second a1 a0 n1 n0 hs
          have e4 : appV 17 a1 a0 = a1 := maxV_second a1 a0 n1 n0 hs
          have e5 : appV 19 a1 a0 = 0 := by show tr (ltV a1 a0) = 0; rw [ltV_num a1 a0 n1 n0, first_not hs]; rfl
          clear hxy hf hs
          go_enter Tryd.func8, Tryd.ntmps8
          go_wp2_with (first | (go_at_call 18; refine (l_at _ _ _ ⟨by omega, by omega⟩ ⟨by omega, by omega⟩ _).mono ?_; rintro e w1 ⟨rfl, _, rfl⟩) | (go_at_call 19; (with_reducible refine (l_nan _ _ n0 (by omega) (by omega) _).mono ?_); rintro e w1 ⟨rfl, rfl⟩) | (go_at_call 19; (with_reducible refine (l_nan _ _ n1 (by omega) (by omega) _).mono ?_); rintro e w1 ⟨rfl, rfl⟩) | (go_at_call 13; refine (AluL.awake _ (HT.drewN _)).mono ?_; rintro e w1 ⟨rfl, _, rfl⟩))
          go_ret
          exact ⟨rfl, rfl, rfl, Nat.le_refl _, fun _ _ => rfl⟩
    · have e1 : appV 16 a0 a1 = 9221120237041090560 := minV_nan a0 a1 (.inr n1)
      have e2 : appV 17 a0 a1 = 9221120237041090560 := maxV_nan a0 a1 (.inr n1)
      have e3 : appV 16 a1 a0 = 9221120237041090560 := minV_nan a1 a0 (.inl n1)
      have e4 : appV 17 a1 a0 = 9221120237041090560 := maxV_nan a1 a0 (.inl n1)
      go_enter Tryd.func8, Tryd.ntmps8
      go_wp2_with (first | (go_at_call 18; refine (l_at _ _ _ ⟨by omega, by omega⟩ ⟨by omega, by omega⟩ _).mono ?_; rintro e w1 ⟨rfl, _, rfl⟩) | (go_at_call 19; (with_reducible refine (l_nan _ _ n0 (by omega) (by omega) _).mono ?_); rintro e w1 ⟨rfl, rfl⟩) | (go_at_call 19; (with_reducible refine (l_nan _ _ n1 (by omega) (by omega) _).mono ?_); rintro e w1 ⟨rfl, rfl⟩) | (go_at_call 13; refine (AluL.awake _ (HT.drewN _)).mono ?_; rintro e w1 ⟨rfl, _, rfl⟩))
      go_ret
      exact ⟨rfl, rfl, rfl, Nat.le_refl _, fun _ _ => rfl⟩
  · have e1 : appV 16 a0 a1 = 9221120237041090560 := minV_nan a0 a1 (.inl n0)
    have e2 : appV 17 a0 a1 = 9221120237041090560 := maxV_nan a0 a1 (.inl n0)
    have e3 : appV 16 a1 a0 = 9221120237041090560 := minV_nan a1 a0 (.inr n0)
    have e4 : appV 17 a1 a0 = 9221120237041090560 := maxV_nan a1 a0 (.inr n0)
    go_enter Tryd.func8, Tryd.ntmps8
    go_wp2_with (first | (go_at_call 18; refine (l_at _ _ _ ⟨by omega, by omega⟩ ⟨by omega, by omega⟩ _).mono ?_; rintro e w1 ⟨rfl, _, rfl⟩) | (go_at_call 19; (with_reducible refine (l_nan _ _ n0 (by omega) (by omega) _).mono ?_); rintro e w1 ⟨rfl, rfl⟩) | (go_at_call 13; refine (AluL.awake _ (HT.drewN _)).mono ?_; rintro e w1 ⟨rfl, _, rfl⟩))
    go_ret
    exact ⟨rfl, rfl, rfl, Nat.le_refl _, fun _ _ => rfl⟩

/-! The heap that the program's own initialisers leave meets the row's condition. -/
theorem door_met (os : Os) (args : Array Value) : laidMetH Tryd.prog [("strongtx/alu.names", Rows.laid_strongtx_alu_names)] ((World.doorLaid Tryd.prog 400 os).forCall (fun _ _ => 0) ⟨#[], args, []⟩).memory :=
  laidMetH_of_parts3 (fuel := 8) (laidMet_of_run' 8 (by kernel_rfl) (by kernel_rfl)) (by kernel_rfl) (by kernel_rfl)

/-! The row's step. -/
set_option maxRecDepth 100000 in
theorem lifted (os : Os) (started : os.Started) (H : Type) (enc : TypeId × Value → H) :
    ReturnsInHanded {} Tryd.checked os 8 .any (fun w args => (Rows.aluMinMaxSpec.pre enc Tryd.prog Tryd.f8 Rows.aluMinMaxRow.domain false w args ∧ laidMetH Tryd.prog [("strongtx/alu.names", Rows.laid_strongtx_alu_names)] w) ∧ sizedMet enc Tryd.prog Tryd.f8 (OpenSpec.ofChange Rows.aluMinMaxSpec) false w args)
      (Rows.aluMinMaxSpec.post enc Tryd.prog Tryd.f8 false true false false) := by
  refine returnsInHanded_of_change_and (C := Tryd.checked) (X := fun w _ => laidMetH Tryd.prog [("strongtx/alu.names", Rows.laid_strongtx_alu_names)] w) (fun _ _ _ hh h => h.of_heap hh) own started (by kernel_rfl) Tryd.func8
    (ChangeSpec.witness_shaped (enc := enc) (C := Tryd.checked) (os := os) (X := fun w _ => laidMetH Tryd.prog [("strongtx/alu.names", Rows.laid_strongtx_alu_names)] w) false (World.doorLaid Tryd.prog 400 os) #[.int .u64 0, .int .u64 0] 8 rfl (World.shaped_of_RefB (by kernel_rfl) (by kernel_rfl)) (by kernel_rfl) (by kernel_rfl) (by kernel_rfl) (door_met os _)) ?_
  intro W base args ds gs before hval0 hW hcnd _ hL _
  have hval : ∀ (j : Nat) t v, Tryd.f8.params[j]? = some t → args[j]? = some v → Value.okWide Tryd.prog W .any base t v := hval0
  have hW' := hW
  obtain ⟨p, q, hA0, hV, rfl, hfz, hnd⟩ := hW
  have hA : DataW.TrodAll enc Tryd.prog W 0 (fun _ => true) true Tryd.f8.params.toList args.toList ds p := hA0
  rw [Tryd.params8] at hA hval
  obtain ⟨v0, vs0, d0, ds0, p0, q0, hargs, rfl, rfl, h0, r0⟩ := trodAll_cons hA
  obtain ⟨v1, vs1, d1, ds1, p1, q1, rfl, rfl, rfl, h1, r1⟩ := trodAll_cons r0
  obtain ⟨rfl, rfl, rfl⟩ := trodAll_nil r1
  obtain rfl : args = #[v0, v1] := by cases args; simp_all
  obtain ⟨rfl, rfl⟩ := trodVars_none hV
  have hk : ∀ W', Kept W W' → Rows.aluMinMaxSpec.post enc Tryd.prog Tryd.f8 false true false false W #[v0, v1] (.bool true) W' := fun W' hb =>
    post_law laidOut readable rfl Tryd.underlying4 rfl hW' rfl hb
  clear hA0 hval0 hA hW'
  obtain ⟨a0, rfl, rfl, rfl, w0⟩ := open_int Tryd.underlying22 (hval 0 22 v0 rfl rfl) h0
  obtain ⟨a1, rfl, rfl, rfl, w1⟩ := open_int Tryd.underlying22 (hval 1 22 v1 rfl rfl) h1
  refine (walk W hL a0 w0 a1 w1).mono fun e W' ⟨he, hg⟩ => ?_
  subst he
  exact ⟨_, rfl, hk W' hg⟩

theorem over : Rows.aluMinMaxRow.holds Tryd.pinned (OpenSpec.ofChange Rows.aluMinMaxSpec) :=
  OpenClaim.holds_of_wide 8 Tryd.f8 rfl rfl rfl rfl rfl rfl rfl ⟨rfl, rfl, rfl, rfl, rfl⟩ rfl rfl rfl rfl rfl (by kernel_rfl) Tryd.func8 (by kernel_rfl)
    (of_decide_eq_true (by kernel_rfl)) (by unfold Func.isWrapper; first | (rw [if_pos (by decide +kernel)]; kernel_rfl) | (rw [if_neg (by decide +kernel)]; exact ⟨rfl, rfl⟩))
    (fun os started H enc _ => lifted os started H enc)

/-- The row. -/
theorem row : Rows.AluMinMaxSaid :=
  over

/-- The statement: the tied card. -/
theorem proved : Rows.AluMinMaxCardSaid :=
  Claim7.holds_tied_plain_at .later [] [.data] true (true, "013be51ec50ab88fb12a8451b9e12f0b5bcd91880598b22d630ea24a65be99af") false
    row (fun _ h => by cases h) (by kernel_rfl) (fun _ h => by cases h) aluMinMax_row_tie rfl ⟨rfl, rfl⟩ (by kernel_rfl) rfl
    (fun f fn hf hfn => by
      obtain rfl : f = 8 := Option.some.inj ((show Tryd.prog.funcNamed "strongtx/strongtxlaw02.AluMinMax" = some 8 by kernel_rfl).symm.trans hf) |>.symm
      obtain rfl : fn = Tryd.f8 := (Option.some.inj (Tryd.func8.symm.trans hfn)).symm
      exact ⟨by kernel_rfl, fun j t ht => by
        rw [Tryd.params8] at ht
        have hm : t ∈ [22, 22] := by simpa using Array.mem_of_getElem? ht
        have hall : ([22, 22].all fun u => !Tryd.prog.wantsStandIn u) = true := by kernel_rfl
        exact (show Tryd.prog.wantsStandIn t = false by simpa using List.all_eq_true.1 hall t hm)⟩)
    (by kernel_rfl)
#print axioms proved
end Go.Proofs.YtkboeeakilhbhaaDoor.aluMinMax
