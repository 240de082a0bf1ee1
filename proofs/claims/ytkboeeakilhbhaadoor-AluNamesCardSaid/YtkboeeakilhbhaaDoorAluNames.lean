/-
  Proved: for every number and every text, Name and Number are those of the document (as the reference of layer 2 gives them), and they are inverse to one another. No condition.
-/
import Derived.Test.YtkboeeakilhbhaaDoorRows
import Derived.WalkKit
import Derived.ProofKit
import Derived.OpenShut
import Derived.Test.YtkboeeakilhbhaaDoorFrame
import Derived.LaidMore
import Derived.Stop.Joined
import Derived.SevenTiedAt
import Derived.Test.YtkboeeakilhbhaaDoorTie
import Derived.Test.YtkboeeakilhbhaaDoorCards
import Derived.Test.YtkboeeakilhbhaaDoorAluLaw
namespace Go.Proofs.YtkboeeakilhbhaaDoor.aluNames
open Go.ChangeShapes Go.WideShapes Go.ChangeAt Go.RowKit
open LawFrame
open Go.ChangeMaps (open_string)
set_option linter.unusedVariables false

theorem own : ownKnob Tryd.prog.godebug = none := by kernel_rfl
theorem laidOut : laidOutB Tryd.prog = true := by kernel_rfl

open Flt AluC TabC AluL
theorem Kept.alloc {w w' : World} (h : Kept w w') (o : Obj) : Kept w (w'.alloc o) := by
  refine ⟨h.1, h.2.1, ?_, fun i hi => ?_⟩
  · show _ ≤ (w'.heap.push o).size
    rw [Array.size_push]
    exact Nat.le_succ_of_le h.2.2.1
  · show (w'.heap.push o)[i]? = _
    rw [Array.getElem?_push, if_neg (Nat.ne_of_lt (Nat.lt_of_lt_of_le hi h.2.2.1))]
    exact h.2.2.2 i hi
theorem Kept.drewN {w w' : World} (h : Kept w w') (n : Nat) : Kept w (w'.drewN n) := h

theorem readable : ∀ t ∈ Tryd.f5.params.toList, Tryd.prog.readableRec t = true ∧ t < Tryd.prog.types.size := by
  have h : (Tryd.f5.params.toList.all fun t => Tryd.prog.readableRec t && decide (t < Tryd.prog.types.size)) = true := by kernel_rfl
  intro t ht
  have := List.all_eq_true.1 h t ht
  simpa using this

/-! The walk. -/
theorem walk (w : World) (hL : laidMetH Tryd.prog [("strongtx/alu.names", Rows.laid_strongtx_alu_names)] w) (a0 : Int) (w0 : (Lit.int .i64 a0).wf = true) (a1 : ByteArray) (m1 : a1.size ≤ maxLen) :
    Calls Tryd.prog 5 #[.int .i64 a0, .string a1] w fun e w' => e = .returned (.bool true) ∧ Kept w w' := by
  have HT := tab_of_laid hL
  clear hL
  obtain ⟨n, b, hn⟩ := num_ex a1
  by_cases h0 : 0 ≤ a0
  · by_cases h1 : a0 < 22
    · obtain ⟨k, rfl⟩ := Int.eq_ofNat_of_zero_le h0
      have hk : k < 22 := by omega
      have hm := num_nm k hk
      go_enter Tryd.func5, Tryd.ntmps5
      go_wp2_with (first | (go_at_call 14; (with_reducible refine (a_num hn _ HT).mono ?_); rintro e w1 ⟨rfl, rfl⟩) | (go_at_call 15; refine (r_num hn _).mono ?_; rintro e w1 ⟨rfl, rfl⟩) | (go_at_call 16; (with_reducible refine (a_name k hk _ (HT.alloc _)).mono ?_); rintro e w1 ⟨rfl, rfl⟩) | (go_at_call 16; (with_reducible refine (a_name k hk _ ((HT.alloc _).alloc _)).mono ?_); rintro e w1 ⟨rfl, rfl⟩) | (go_at_call 17; refine (r_name k hk _).mono ?_; rintro e w1 ⟨rfl, rfl⟩) | (go_at_call 14; (with_reducible refine (a_num hm _ ((HT.alloc _).alloc _)).mono ?_); rintro e w1 ⟨rfl, rfl⟩) | (go_at_call 13; refine (AluL.awake _ ((HT.alloc _).alloc _)).mono ?_; rintro e w1 ⟨rfl, _, rfl⟩))
      go_ret
      exact ⟨rfl, aluNames.Kept.drewN (aluNames.Kept.alloc (aluNames.Kept.alloc (Kept.refl w) _) _) _⟩
    · have hm := num_empty
      have hd : decide (a0 < 22) = false := by simpa using h1
      go_enter Tryd.func5, Tryd.ntmps5
      go_wp2_with (first | (go_at_call 14; (with_reducible refine (a_num hn _ HT).mono ?_); rintro e w1 ⟨rfl, rfl⟩) | (go_at_call 15; refine (r_num hn _).mono ?_; rintro e w1 ⟨rfl, rfl⟩) | (go_at_call 16; (with_reducible refine (a_name_no _ (by omega) _).mono ?_); rintro e w1 ⟨rfl, rfl⟩) | (go_at_call 16; (with_reducible refine (a_name_no _ (by omega) _).mono ?_); rintro e w1 ⟨rfl, rfl⟩) | (go_at_call 17; refine (r_name_no _ (by omega) _).mono ?_; rintro e w1 ⟨rfl, rfl⟩) | (go_at_call 14; (with_reducible refine (a_num hm _ (HT.alloc _)).mono ?_); rintro e w1 ⟨rfl, rfl⟩) | (go_at_call 13; refine (AluL.awake _ (HT.alloc _)).mono ?_; rintro e w1 ⟨rfl, _, rfl⟩))
      go_ret
      exact ⟨rfl, aluNames.Kept.drewN (aluNames.Kept.alloc (Kept.refl w) _) _⟩
  · have hm := num_empty
    have h1 : a0 < 0 := by omega
    clear h0
    go_enter Tryd.func5, Tryd.ntmps5
    go_wp2_with (first | (go_at_call 14; (with_reducible refine (a_num hn _ HT).mono ?_); rintro e w1 ⟨rfl, rfl⟩) | (go_at_call 15; refine (r_num hn _).mono ?_; rintro e w1 ⟨rfl, rfl⟩) | (go_at_call 16; (with_reducible refine (a_name_no _ (by omega) _).mono ?_); rintro e w1 ⟨rfl, rfl⟩) | (go_at_call 16; (with_reducible refine (a_name_no _ (by omega) _).mono ?_); rintro e w1 ⟨rfl, rfl⟩) | (go_at_call 17; refine (r_name_no _ (by omega) _).mono ?_; rintro e w1 ⟨rfl, rfl⟩) | (go_at_call 14; (with_reducible refine (a_num hm _ (HT.alloc _)).mono ?_); rintro e w1 ⟨rfl, rfl⟩) | (go_at_call 13; refine (AluL.awake _ (HT.alloc _)).mono ?_; rintro e w1 ⟨rfl, _, rfl⟩))
    go_ret
    exact ⟨rfl, aluNames.Kept.drewN (aluNames.Kept.alloc (Kept.refl w) _) _⟩

/-! The heap that the program's own initialisers leave meets the row's condition. -/
theorem door_met (os : Os) (args : Array Value) : laidMetH Tryd.prog [("strongtx/alu.names", Rows.laid_strongtx_alu_names)] ((World.doorLaid Tryd.prog 400 os).forCall (fun _ _ => 0) ⟨#[], args, []⟩).memory :=
  laidMetH_of_parts3 (fuel := 8) (laidMet_of_run' 8 (by kernel_rfl) (by kernel_rfl)) (by kernel_rfl) (by kernel_rfl)

/-! The row's step. -/
set_option maxRecDepth 100000 in
theorem lifted (os : Os) (started : os.Started) (H : Type) (enc : TypeId × Value → H) :
    ReturnsInHanded {} Tryd.checked os 5 .any (fun w args => (Rows.aluNamesSpec.pre enc Tryd.prog Tryd.f5 Rows.aluNamesRow.domain false w args ∧ laidMetH Tryd.prog [("strongtx/alu.names", Rows.laid_strongtx_alu_names)] w) ∧ sizedMet enc Tryd.prog Tryd.f5 (OpenSpec.ofChange Rows.aluNamesSpec) false w args)
      (Rows.aluNamesSpec.post enc Tryd.prog Tryd.f5 false true false false) := by
  refine returnsInHanded_of_change_and (C := Tryd.checked) (X := fun w _ => laidMetH Tryd.prog [("strongtx/alu.names", Rows.laid_strongtx_alu_names)] w) (fun _ _ _ hh h => h.of_heap hh) own started (by kernel_rfl) Tryd.func5
    (ChangeSpec.witness_shaped (enc := enc) (C := Tryd.checked) (os := os) (X := fun w _ => laidMetH Tryd.prog [("strongtx/alu.names", Rows.laid_strongtx_alu_names)] w) false (World.doorLaid Tryd.prog 400 os) #[.int .i64 0, .string ⟨#[]⟩] 8 rfl (World.shaped_of_RefB (by kernel_rfl) (by kernel_rfl)) (by kernel_rfl) (by kernel_rfl) (by kernel_rfl) (door_met os _)) ?_
  intro W base args ds gs before hval0 hW hcnd _ hL _
  have hval : ∀ (j : Nat) t v, Tryd.f5.params[j]? = some t → args[j]? = some v → Value.okWide Tryd.prog W .any base t v := hval0
  have hW' := hW
  obtain ⟨p, q, hA0, hV, rfl, hfz, hnd⟩ := hW
  have hA : DataW.TrodAll enc Tryd.prog W 0 (fun _ => true) true Tryd.f5.params.toList args.toList ds p := hA0
  rw [Tryd.params5] at hA hval
  obtain ⟨v0, vs0, d0, ds0, p0, q0, hargs, rfl, rfl, h0, r0⟩ := trodAll_cons hA
  obtain ⟨v1, vs1, d1, ds1, p1, q1, rfl, rfl, rfl, h1, r1⟩ := trodAll_cons r0
  obtain ⟨rfl, rfl, rfl⟩ := trodAll_nil r1
  obtain rfl : args = #[v0, v1] := by cases args; simp_all
  obtain ⟨rfl, rfl⟩ := trodVars_none hV
  have hk : ∀ W', Kept W W' → Rows.aluNamesSpec.post enc Tryd.prog Tryd.f5 false true false false W #[v0, v1] (.bool true) W' := fun W' hb =>
    post_law laidOut readable rfl Tryd.underlying4 rfl hW' rfl hb
  clear hA0 hval0 hA hW'
  obtain ⟨a0, rfl, rfl, rfl, w0⟩ := open_int Tryd.underlying3 (hval 0 3 v0 rfl rfl) h0
  obtain ⟨a1, rfl, rfl, rfl, m1⟩ := open_string Tryd.underlying9 (hval 1 9 v1 rfl rfl) h1
  refine (walk W hL a0 w0 a1 m1).mono fun e W' ⟨he, hg⟩ => ?_
  subst he
  exact ⟨_, rfl, hk W' hg⟩

theorem over : Rows.aluNamesRow.holds Tryd.pinned (OpenSpec.ofChange Rows.aluNamesSpec) :=
  OpenClaim.holds_of_wide 5 Tryd.f5 rfl rfl rfl rfl rfl rfl rfl ⟨rfl, rfl, rfl, rfl, rfl⟩ rfl rfl rfl rfl rfl (by kernel_rfl) Tryd.func5 (by kernel_rfl)
    (of_decide_eq_true (by kernel_rfl)) (by unfold Func.isWrapper; first | (rw [if_pos (by decide +kernel)]; kernel_rfl) | (rw [if_neg (by decide +kernel)]; exact ⟨rfl, rfl⟩))
    (fun os started H enc _ => lifted os started H enc)

/-- The row. -/
theorem row : Rows.AluNamesSaid :=
  over

/-- The statement: the tied card. -/
theorem proved : Rows.AluNamesCardSaid :=
  Claim7.holds_tied_plain_at .later [] [.data] true (true, "013be51ec50ab88fb12a8451b9e12f0b5bcd91880598b22d630ea24a65be99af") false
    row (fun _ h => by cases h) (by kernel_rfl) (fun _ h => by cases h) aluNames_row_tie rfl ⟨rfl, rfl⟩ (by kernel_rfl) rfl
    (fun f fn hf hfn => by
      obtain rfl : f = 5 := Option.some.inj ((show Tryd.prog.funcNamed "strongtx/strongtxlaw02.AluNames" = some 5 by kernel_rfl).symm.trans hf) |>.symm
      obtain rfl : fn = Tryd.f5 := (Option.some.inj (Tryd.func5.symm.trans hfn)).symm
      exact ⟨by kernel_rfl, fun j t ht => by
        rw [Tryd.params5] at ht
        have hm : t ∈ [3, 9] := by simpa using Array.mem_of_getElem? ht
        have hall : ([3, 9].all fun u => !Tryd.prog.wantsStandIn u) = true := by kernel_rfl
        exact (show Tryd.prog.wantsStandIn t = false by simpa using List.all_eq_true.1 hall t hm)⟩)
    (by kernel_rfl)
#print axioms proved
end Go.Proofs.YtkboeeakilhbhaaDoor.aluNames
