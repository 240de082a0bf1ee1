/-
  Proved: for all three words, sums and products modulo 2^64 are commutative and associative, subtraction undoes addition, multiplication distributes, and xor undoes itself. No condition.
-/
import Derived.Test.YtkboeeakilhbhaaDoorRows
import Derived.WalkKit
import Derived.ProofKit
import Derived.OpenShut
import Derived.Test.YtkboeeakilhbhaaDoorFrame
import Derived.LaidMore
import Derived.Stop.Joined
import Derived.SevenTiedAt
import Derived.Test.YtkboeeakilhbhaaDoorTie
import Derived.Test.YtkboeeakilhbhaaDoorCards
import Derived.Test.YtkboeeakilhbhaaDoorAluLaw
namespace Go.Proofs.YtkboeeakilhbhaaDoor.aluWhole
open Go.ChangeShapes Go.WideShapes Go.ChangeAt Go.RowKit
open LawFrame
open Go.ChangeMaps (open_string)
set_option linter.unusedVariables false

theorem own : ownKnob Tryd.prog.godebug = none := by kernel_rfl
theorem laidOut : laidOutB Tryd.prog = true := by kernel_rfl

open Flt AluC TabC AluL
theorem em (x z m : Int) : x % m * z % m = x * z % m := by rw [Int.mul_emod, Int.emod_emod, ← Int.mul_emod]
theorem me (x z m : Int) : x * (z % m) % m = x * z % m := by rw [Int.mul_emod, Int.emod_emod, ← Int.mul_emod]
theorem add_c (x y : Int) : appV 0 x y = appV 0 y x := by
  show IntKind.u64.wrap (x + y) = IntKind.u64.wrap (y + x)
  rw [Int.add_comm]
theorem mul_c (x y : Int) : appV 2 x y = appV 2 y x := by
  show IntKind.u64.wrap (x * y) = IntKind.u64.wrap (y * x)
  rw [Int.mul_comm]
theorem sub_add (x y : Int) (h0 : 0 ≤ x) (h1 : x ≤ 18446744073709551615) : appV 1 (appV 0 x y) y = x := by
  show IntKind.u64.wrap (IntKind.u64.wrap (x + y) - y) = x
  rw [IntKind.wrap_u64, IntKind.wrap_u64]
  omega
theorem add_a (x y z : Int) : appV 0 (appV 0 x y) z = appV 0 x (appV 0 y z) := by
  show IntKind.u64.wrap (IntKind.u64.wrap (x + y) + z) = IntKind.u64.wrap (x + IntKind.u64.wrap (y + z))
  simp only [IntKind.wrap_u64]
  omega
theorem mul_a (x y z : Int) : appV 2 (appV 2 x y) z = appV 2 x (appV 2 y z) := by
  show IntKind.u64.wrap (IntKind.u64.wrap (x * y) * z) = IntKind.u64.wrap (x * IntKind.u64.wrap (y * z))
  simp only [IntKind.wrap_u64]
  rw [em, me, Int.mul_assoc]
theorem dist (x y z : Int) : appV 2 (appV 0 x y) z = appV 0 (appV 2 x z) (appV 2 y z) := by
  show IntKind.u64.wrap (IntKind.u64.wrap (x + y) * z) = IntKind.u64.wrap (IntKind.u64.wrap (x * z) + IntKind.u64.wrap (y * z))
  simp only [IntKind.wrap_u64]
  rw [em, Int.add_mul, ← Int.add_emod]

theorem readable : ∀ t ∈ Tryd.f6.params.toList, Tryd.prog.readableRec t = true ∧ t < Tryd.prog.types.size := by
  have h : (Tryd.f6.params.toList.all fun t => Tryd.prog.readableRec t && decide (t < Tryd.prog.types.size)) = true := by kernel_rfl
  intro t ht
  have := List.all_eq_true.1 h t ht
  simpa using this

/-! The walk. -/
theorem walk (w : World) (hL : laidMetH Tryd.prog [("strongtx/alu.names", Rows.laid_strongtx_alu_names)] w) (a0 : Int) (w0 : (Lit.int .u64 a0).wf = true) (a1 : Int) (w1 : (Lit.int .u64 a1).wf = true) (a2 : Int) (w2 : (Lit.int .u64 a2).wf = true) :
    Calls Tryd.prog 6 #[.int .u64 a0, .int .u64 a1, .int .u64 a2] w fun e w' => e = .returned (.bool true) ∧ Kept w w' := by
  have HT := tab_of_laid hL
  clear hL
  obtain ⟨b0, c0⟩ := bounds_u64 w0
  clear w0
  obtain ⟨b1, c1⟩ := bounds_u64 w1
  clear w1
  obtain ⟨b2, c2⟩ := bounds_u64 w2
  clear w2
  have e1 := Lib.hid (add_c a0 a1)
  have f1 : (appV 0 a0 a1 != appV 0 a1 a0) = false := by rw [e1.out]; simp
  have f2 : (appV 2 a0 a1 != appV 2 a1 a0) = false := by rw [mul_c a0 a1]; simp
  have f3 : (appV 1 (appV 0 a0 a1) a1 != a0) = false := by rw [sub_add a0 a1 b0 c0]; simp
  have f4 : (appV 0 (appV 0 a0 a1) a2 != appV 0 a0 (appV 0 a1 a2)) = false := by rw [add_a]; simp
  have f5 : (appV 2 (appV 2 a0 a1) a2 != appV 2 a0 (appV 2 a1 a2)) = false := by rw [mul_a]; simp
  have f6 : (appV 2 (appV 0 a0 a1) a2 == appV 0 (appV 2 a0 a2) (appV 2 a1 a2)) = true := by rw [dist]; simp
  have f7 : (appV 5 (appV 5 a0 a1) a1 == a0) = true := by rw [show appV 5 (appV 5 a0 a1) a1 = a0 from xor_xor a0 a1 b0 c0 b1 c1]; simp
  go_enter Tryd.func6, Tryd.ntmps6
  go_wp2_with (first | (go_at_call 18; refine (l_at _ _ _ (by first | exact ⟨by omega, by omega⟩ | exact bd _ _ _ b0 c0 b1 c1 | exact bd _ _ _ b1 c1 b2 c2 | exact bd _ _ _ b0 c0 b2 c2) (by first | exact ⟨by omega, by omega⟩ | exact bd _ _ _ b1 c1 b2 c2) _).mono ?_; rintro e w1 ⟨rfl, _, rfl⟩) | (go_at_call 13; refine (AluL.awake _ (HT.drewN _)).mono ?_; rintro e w1 ⟨rfl, _, rfl⟩))
  go_ret
  exact ⟨rfl, rfl, rfl, Nat.le_refl _, fun _ _ => rfl⟩

/-! The heap that the program's own initialisers leave meets the row's condition. -/
theorem door_met (os : Os) (args : Array Value) : laidMetH Tryd.prog [("strongtx/alu.names", Rows.laid_strongtx_alu_names)] ((World.doorLaid Tryd.prog 400 os).forCall (fun _ _ => 0) ⟨#[], args, []⟩).memory :=
  laidMetH_of_parts3 (fuel := 8) (laidMet_of_run' 8 (by kernel_rfl) (by kernel_rfl)) (by kernel_rfl) (by kernel_rfl)

/-! The row's step. -/
set_option maxRecDepth 100000 in
theorem lifted (os : Os) (started : os.Started) (H : Type) (enc : TypeId × Value → H) :
    ReturnsInHanded {} Tryd.checked os 6 .any (fun w args => (Rows.aluWholeSpec.pre enc Tryd.prog Tryd.f6 Rows.aluWholeRow.domain false w args ∧ laidMetH Tryd.prog [("strongtx/alu.names", Rows.laid_strongtx_alu_names)] w) ∧ sizedMet enc Tryd.prog Tryd.f6 (OpenSpec.ofChange Rows.aluWholeSpec) false w args)
      (Rows.aluWholeSpec.post enc Tryd.prog Tryd.f6 false true false false) := by
  refine returnsInHanded_of_change_and (C := Tryd.checked) (X := fun w _ => laidMetH Tryd.prog [("strongtx/alu.names", Rows.laid_strongtx_alu_names)] w) (fun _ _ _ hh h => h.of_heap hh) own started (by kernel_rfl) Tryd.func6
    (ChangeSpec.witness_shaped (enc := enc) (C := Tryd.checked) (os := os) (X := fun w _ => laidMetH Tryd.prog [("strongtx/alu.names", Rows.laid_strongtx_alu_names)] w) false (World.doorLaid Tryd.prog 400 os) #[.int .u64 0, .int .u64 0, .int .u64 0] 8 rfl (World.shaped_of_RefB (by kernel_rfl) (by kernel_rfl)) (by kernel_rfl) (by kernel_rfl) (by kernel_rfl) (door_met os _)) ?_
  intro W base args ds gs before hval0 hW hcnd _ hL _
  have hval : ∀ (j : Nat) t v, Tryd.f6.params[j]? = some t → args[j]? = some v → Value.okWide Tryd.prog W .any base t v := hval0
  have hW' := hW
  obtain ⟨p, q, hA0, hV, rfl, hfz, hnd⟩ := hW
  have hA : DataW.TrodAll enc Tryd.prog W 0 (fun _ => true) true Tryd.f6.params.toList args.toList ds p := hA0
  rw [Tryd.params6] at hA hval
  obtain ⟨v0, vs0, d0, ds0, p0, q0, hargs, rfl, rfl, h0, r0⟩ := trodAll_cons hA
  obtain ⟨v1, vs1, d1, ds1, p1, q1, rfl, rfl, rfl, h1, r1⟩ := trodAll_cons r0
  obtain ⟨v2, vs2, d2, ds2, p2, q2, rfl, rfl, rfl, h2, r2⟩ := trodAll_cons r1
  obtain ⟨rfl, rfl, rfl⟩ := trodAll_nil r2
  obtain rfl : args = #[v0, v1, v2] := by cases args; simp_all
  obtain ⟨rfl, rfl⟩ := trodVars_none hV
  have hk : ∀ W', Kept W W' → Rows.aluWholeSpec.post enc Tryd.prog Tryd.f6 false true false false W #[v0, v1, v2] (.bool true) W' := fun W' hb =>
    post_law laidOut readable rfl Tryd.underlying4 rfl hW' rfl hb
  clear hA0 hval0 hA hW'
  obtain ⟨a0, rfl, rfl, rfl, w0⟩ := open_int Tryd.underlying22 (hval 0 22 v0 rfl rfl) h0
  obtain ⟨a1, rfl, rfl, rfl, w1⟩ := open_int Tryd.underlying22 (hval 1 22 v1 rfl rfl) h1
  obtain ⟨a2, rfl, rfl, rfl, w2⟩ := open_int Tryd.underlying22 (hval 2 22 v2 rfl rfl) h2
  refine (walk W hL a0 w0 a1 w1 a2 w2).mono fun e W' ⟨he, hg⟩ => ?_
  subst he
  exact ⟨_, rfl, hk W' hg⟩

theorem over : Rows.aluWholeRow.holds Tryd.pinned (OpenSpec.ofChange Rows.aluWholeSpec) :=
  OpenClaim.holds_of_wide 6 Tryd.f6 rfl rfl rfl rfl rfl rfl rfl ⟨rfl, rfl, rfl, rfl, rfl⟩ rfl rfl rfl rfl rfl (by kernel_rfl) Tryd.func6 (by kernel_rfl)
    (of_decide_eq_true (by kernel_rfl)) (by unfold Func.isWrapper; first | (rw [if_pos (by decide +kernel)]; kernel_rfl) | (rw [if_neg (by decide +kernel)]; exact ⟨rfl, rfl⟩))
    (fun os started H enc _ => lifted os started H enc)

/-- The row. -/
theorem row : Rows.AluWholeSaid :=
  over

/-- The statement: the tied card. -/
theorem proved : Rows.AluWholeCardSaid :=
  Claim7.holds_tied_plain_at .later [] [.data] true (true, "013be51ec50ab88fb12a8451b9e12f0b5bcd91880598b22d630ea24a65be99af") false
    row (fun _ h => by cases h) (by kernel_rfl) (fun _ h => by cases h) aluWhole_row_tie rfl ⟨rfl, rfl⟩ (by kernel_rfl) rfl
    (fun f fn hf hfn => by
      obtain rfl : f = 6 := Option.some.inj ((show Tryd.prog.funcNamed "strongtx/strongtxlaw02.AluWhole" = some 6 by kernel_rfl).symm.trans hf) |>.symm
      obtain rfl : fn = Tryd.f6 := (Option.some.inj (Tryd.func6.symm.trans hfn)).symm
      exact ⟨by kernel_rfl, fun j t ht => by
        rw [Tryd.params6] at ht
        have hm : t ∈ [22, 22, 22] := by simpa using Array.mem_of_getElem? ht
        have hall : ([22, 22, 22].all fun u => !Tryd.prog.wantsStandIn u) = true := by kernel_rfl
        exact (show Tryd.prog.wantsStandIn t = false by simpa using List.all_eq_true.1 hall t hm)⟩)
    (by kernel_rfl)
#print axioms proved
end Go.Proofs.YtkboeeakilhbhaaDoor.aluWhole
