/-
  Proved: for every two words, integers of at most 53 bits survive the way to a float and back, and infinities, NaNs and -0 are converted to the greatest integer, the least, 0 and 0. No condition.
-/
import Derived.Test.YtkboeeakilhbhaaDoorRows
import Derived.WalkKit
import Derived.ProofKit
import Derived.OpenShut
import Derived.Test.YtkboeeakilhbhaaDoorFrame
import Derived.LaidMore
import Derived.Stop.Joined
import Derived.SevenTiedAt
import Derived.Test.YtkboeeakilhbhaaDoorTie
import Derived.Test.YtkboeeakilhbhaaDoorCards
import Derived.Test.YtkboeeakilhbhaaDoorAluLaw
namespace Go.Proofs.YtkboeeakilhbhaaDoor.aluConverts
open Go.ChangeShapes Go.WideShapes Go.ChangeAt Go.RowKit
open LawFrame
open Go.ChangeMaps (open_string)
set_option linter.unusedVariables false

theorem own : ownKnob Tryd.prog.godebug = none := by kernel_rfl
theorem laidOut : laidOutB Tryd.prog = true := by kernel_rfl

open Flt AluC TabC AluL
theorem app21 (x y : Int) : appV 21 x y = toV x := rfl
theorem wrap64_wrap (n : Int) (h0 : -9007199254740992 < n) (h1 : n < 9007199254740992) : wrap64 (IntKind.u64.wrap n) = n := by
  unfold wrap64
  rw [IntKind.wrap_u64]
  omega
/-- An integer of at most 53 bits, as a word, to a float and back. -/
theorem there_back (n k y : Int) (h0 : -9007199254740992 < n) (h1 : n < 9007199254740992) (hk : IntKind.u64.wrap n = k) : appV 21 (appV 20 k y) y = k := by
  show toV (floatOfInt .f64 (wrap64 k) : Nat) = k
  rw [← hk, wrap64_wrap n h0 h1]
  obtain ⟨r1, r2, r3, r4, r5⟩ := round_trip n h0 h1
  have hn : nanI (floatOfInt .f64 n : Nat) = false := by unfold nanI; rw [Int.toNat_natCast]; exact r4
  have hk : keyI (floatOfInt .f64 n : Nat) = key (floatOfInt .f64 n) := by
    have := key_eq (floatOfInt .f64 n : Nat) (by omega) (by omega)
    rw [Int.toNat_natCast] at this
    exact this.symm
  rw [toV_in _ hn (by rw [hk]; exact r2) (by rw [hk]; exact r3)]
  congr 1
  unfold whole
  rw [Int.toNat_natCast, r1]
  rfl
theorem bad_nan (n : Int) (h0 : 0 ≤ n) (h1 : n ≤ 18446744073709551615) : nanI (bits .or .u64 n 9218868437227405313) = true := by
  rw [u64_or n 9218868437227405313 h0 (by omega) (by omega) (by omega)]
  unfold nanI nan
  rw [Int.toNat_natCast, decide_eq_true_eq]
  have e : (9218868437227405313 : Int).toNat = 9218868437227405313 := rfl
  rw [e]
  have hm : (n.toNat ||| 9218868437227405313) % 2 ^ 63 = n.toNat % 2 ^ 63 ||| 9218868437227405313 % 2 ^ 63 := Nat.or_mod_two_pow
  have hle : 9218868437227405313 ≤ n.toNat % 2 ^ 63 ||| 9218868437227405313 := Nat.right_le_or
  have h2 : (9218868437227405313 : Nat) % 2 ^ 63 = 9218868437227405313 := by decide
  rw [h2] at hm
  have h3 : (2 : Nat) ^ 63 = 9223372036854775808 := by decide
  rw [h3] at hm hle
  omega

theorem readable : ∀ t ∈ Tryd.f10.params.toList, Tryd.prog.readableRec t = true ∧ t < Tryd.prog.types.size := by
  have h : (Tryd.f10.params.toList.all fun t => Tryd.prog.readableRec t && decide (t < Tryd.prog.types.size)) = true := by kernel_rfl
  intro t ht
  have := List.all_eq_true.1 h t ht
  simpa using this

/-! The walk. -/
theorem walk (w : World) (hL : laidMetH Tryd.prog [("strongtx/alu.names", Rows.laid_strongtx_alu_names)] w) (a0 : Int) (w0 : (Lit.int .u64 a0).wf = true) (a1 : Int) (w1 : (Lit.int .u64 a1).wf = true) :
    Calls Tryd.prog 10 #[.int .u64 a0, .int .u64 a1] w fun e w' => e = .returned (.bool true) ∧ Kept w w' := by
  have HT := tab_of_laid hL
  clear hL
  obtain ⟨b0, c0⟩ := bounds_u64 w0
  clear w0
  obtain ⟨b1, c1⟩ := bounds_u64 w1
  clear w1
  have g1 : appV 21 9218868437227405312 a0 = 9223372036854775807 := by rw [app21]; decide +kernel
  have g2 : appV 21 18442240474082181120 a0 = 9223372036854775808 := by rw [app21]; decide +kernel
  have g3 : appV 21 9223372036854775808 a0 = 0 := by rw [app21]; decide +kernel
  have g4 : appV 21 (bits .or .u64 a1 9218868437227405313) a0 = 0 := toV_nan _ (bad_nan a1 b1 c1)
  obtain ⟨d0, d1⟩ := bd_bits .or a1 9218868437227405313
  have q0 : 0 ≤ a0 / 2048 := by omega
  have q1 : a0 / 2048 < 9007199254740992 := by omega
  obtain ⟨q, hq⟩ : ∃ q, a0 / 2048 = q := ⟨_, rfl⟩
  rw [hq] at q0 q1
  obtain ⟨v, hv⟩ : ∃ v, bits .and .u64 a0 1 = v := ⟨_, rfl⟩
  by_cases h1 : v = 1
  · subst h1
    have k1 := there_back (-q) (IntKind.u64.wrap (-q)) a1 (by omega) (by omega) rfl
    obtain ⟨f0, f1⟩ := bd_wrap (-q)
    obtain ⟨f2, f3⟩ := bd 20 (IntKind.u64.wrap (-q)) a1 f0 f1 b1 c1
    go_enter Tryd.func10, Tryd.ntmps10
    go_wp2_with (first | (go_at_call 18; refine (l_at _ _ _ ⟨by omega, by omega⟩ ⟨by omega, by omega⟩ _).mono ?_; rintro e w1 ⟨rfl, _, rfl⟩) | (go_at_call 13; refine (AluL.awake _ (HT.drewN _)).mono ?_; rintro e w1 ⟨rfl, _, rfl⟩))
    go_ret
    exact ⟨rfl, rfl, rfl, Nat.le_refl _, fun _ _ => rfl⟩
  · have hb : (v == 1) = false := by rw [beq_eq_false_iff_ne]; exact h1
    have k1 := there_back q q a1 (by omega) (by omega) (by rw [IntKind.wrap_u64]; omega)
    obtain ⟨f2, f3⟩ := bd 20 q a1 (by omega) (by omega) b1 c1
    go_enter Tryd.func10, Tryd.ntmps10
    go_wp2_with (first | (go_at_call 18; refine (l_at _ _ _ ⟨by omega, by omega⟩ ⟨by omega, by omega⟩ _).mono ?_; rintro e w1 ⟨rfl, _, rfl⟩) | (go_at_call 13; refine (AluL.awake _ (HT.drewN _)).mono ?_; rintro e w1 ⟨rfl, _, rfl⟩))
    go_ret
    exact ⟨rfl, rfl, rfl, Nat.le_refl _, fun _ _ => rfl⟩

/-! The heap that the program's own initialisers leave meets the row's condition. -/
theorem door_met (os : Os) (args : Array Value) : laidMetH Tryd.prog [("strongtx/alu.names", Rows.laid_strongtx_alu_names)] ((World.doorLaid Tryd.prog 400 os).forCall (fun _ _ => 0) ⟨#[], args, []⟩).memory :=
  laidMetH_of_parts3 (fuel := 8) (laidMet_of_run' 8 (by kernel_rfl) (by kernel_rfl)) (by kernel_rfl) (by kernel_rfl)

/-! The row's step. -/
set_option maxRecDepth 100000 in
theorem lifted (os : Os) (started : os.Started) (H : Type) (enc : TypeId × Value → H) :
    ReturnsInHanded {} Tryd.checked os 10 .any (fun w args => (Rows.aluConvertsSpec.pre enc Tryd.prog Tryd.f10 Rows.aluConvertsRow.domain false w args ∧ laidMetH Tryd.prog [("strongtx/alu.names", Rows.laid_strongtx_alu_names)] w) ∧ sizedMet enc Tryd.prog Tryd.f10 (OpenSpec.ofChange Rows.aluConvertsSpec) false w args)
      (Rows.aluConvertsSpec.post enc Tryd.prog Tryd.f10 false true false false) := by
  refine returnsInHanded_of_change_and (C := Tryd.checked) (X := fun w _ => laidMetH Tryd.prog [("strongtx/alu.names", Rows.laid_strongtx_alu_names)] w) (fun _ _ _ hh h => h.of_heap hh) own started (by kernel_rfl) Tryd.func10
    (ChangeSpec.witness_shaped (enc := enc) (C := Tryd.checked) (os := os) (X := fun w _ => laidMetH Tryd.prog [("strongtx/alu.names", Rows.laid_strongtx_alu_names)] w) false (World.doorLaid Tryd.prog 400 os) #[.int .u64 0, .int .u64 0] 8 rfl (World.shaped_of_RefB (by kernel_rfl) (by kernel_rfl)) (by kernel_rfl) (by kernel_rfl) (by kernel_rfl) (door_met os _)) ?_
  intro W base args ds gs before hval0 hW hcnd _ hL _
  have hval : ∀ (j : Nat) t v, Tryd.f10.params[j]? = some t → args[j]? = some v → Value.okWide Tryd.prog W .any base t v := hval0
  have hW' := hW
  obtain ⟨p, q, hA0, hV, rfl, hfz, hnd⟩ := hW
  have hA : DataW.TrodAll enc Tryd.prog W 0 (fun _ => true) true Tryd.f10.params.toList args.toList ds p := hA0
  rw [Tryd.params10] at hA hval
  obtain ⟨v0, vs0, d0, ds0, p0, q0, hargs, rfl, rfl, h0, r0⟩ := trodAll_cons hA
  obtain ⟨v1, vs1, d1, ds1, p1, q1, rfl, rfl, rfl, h1, r1⟩ := trodAll_cons r0
  obtain ⟨rfl, rfl, rfl⟩ := trodAll_nil r1
  obtain rfl : args = #[v0, v1] := by cases args; simp_all
  obtain ⟨rfl, rfl⟩ := trodVars_none hV
  have hk : ∀ W', Kept W W' → Rows.aluConvertsSpec.post enc Tryd.prog Tryd.f10 false true false false W #[v0, v1] (.bool true) W' := fun W' hb =>
    post_law laidOut readable rfl Tryd.underlying4 rfl hW' rfl hb
  clear hA0 hval0 hA hW'
  obtain ⟨a0, rfl, rfl, rfl, w0⟩ := open_int Tryd.underlying22 (hval 0 22 v0 rfl rfl) h0
  obtain ⟨a1, rfl, rfl, rfl, w1⟩ := open_int Tryd.underlying22 (hval 1 22 v1 rfl rfl) h1
  refine (walk W hL a0 w0 a1 w1).mono fun e W' ⟨he, hg⟩ => ?_
  subst he
  exact ⟨_, rfl, hk W' hg⟩

theorem over : Rows.aluConvertsRow.holds Tryd.pinned (OpenSpec.ofChange Rows.aluConvertsSpec) :=
  OpenClaim.holds_of_wide 10 Tryd.f10 rfl rfl rfl rfl rfl rfl rfl ⟨rfl, rfl, rfl, rfl, rfl⟩ rfl rfl rfl rfl rfl (by kernel_rfl) Tryd.func10 (by kernel_rfl)
    (of_decide_eq_true (by kernel_rfl)) (by unfold Func.isWrapper; first | (rw [if_pos (by decide +kernel)]; kernel_rfl) | (rw [if_neg (by decide +kernel)]; exact ⟨rfl, rfl⟩))
    (fun os started H enc _ => lifted os started H enc)

/-- The row. -/
theorem row : Rows.AluConvertsSaid :=
  over

/-- The statement: the tied card. -/
theorem proved : Rows.AluConvertsCardSaid :=
  Claim7.holds_tied_plain_at .later [] [.data] true (true, "013be51ec50ab88fb12a8451b9e12f0b5bcd91880598b22d630ea24a65be99af") false
    row (fun _ h => by cases h) (by kernel_rfl) (fun _ h => by cases h) aluConverts_row_tie rfl ⟨rfl, rfl⟩ (by kernel_rfl) rfl
    (fun f fn hf hfn => by
      obtain rfl : f = 10 := Option.some.inj ((show Tryd.prog.funcNamed "strongtx/strongtxlaw02.AluConverts" = some 10 by kernel_rfl).symm.trans hf) |>.symm
      obtain rfl : fn = Tryd.f10 := (Option.some.inj (Tryd.func10.symm.trans hfn)).symm
      exact ⟨by kernel_rfl, fun j t ht => by
        rw [Tryd.params10] at ht
        have hm : t ∈ [22, 22] := by simpa using Array.mem_of_getElem? ht
        have hall : ([22, 22].all fun u => !Tryd.prog.wantsStandIn u) = true := by kernel_rfl
        exact (show Tryd.prog.wantsStandIn t = false by simpa using List.all_eq_true.1 hall t hm)⟩)
    (by kernel_rfl)
#print axioms proved
end Go.Proofs.YtkboeeakilhbhaaDoor.aluConverts
