/-
  Proved: a validation without orecs succeeds at once and makes no step. No condition.
-/
import Derived.Test.YtdegclfbnldgaaaRows
import Derived.WalkKit
import Derived.ProofKit
import Derived.OpenShut
import Derived.Test.YtdegclfbnldgaaaFrame
import Derived.Test.YtdegclfbnldgaaaVaL
import Derived.Test.YtdegclfbnldgaaaLayO
import Derived.Deep.RegionHeld3
import Derived.Deep.RegionLaw
import Derived.Deep.Cut
import Derived.Deep.DeepCutAuto
import Derived.Deep.CutBlock
import Derived.BigQuiet
import Derived.Deep.QuietTactic
namespace Go.Proofs.Ytdegclfbnldgaaa.validatorEmpty
open Go.ChangeShapes Go.WideShapes Go.ChangeAt Go.RowKit
open LawFrame
open Go.ChangeMaps (open_string)
set_option linter.unusedVariables false

theorem own : ownKnob Try.prog.godebug = none := by kernel_rfl
theorem laidOut : laidOutB Try.prog = true := by kernel_rfl

open LawFrame PlainT BlkW LayS LayA LayH LayK LayP CelS CelM CelP CelV CelN CelO CelF LabD LabR LabP LabS LabX LabN CelLo WordC RsA ObjA ClnA VaA VaB VaL
set_option maxHeartbeats 20000000
set_option maxRecDepth 400000

theorem readable : ∀ t ∈ Try.f8.params.toList, Try.prog.readableRec t = true ∧ t < Try.prog.types.size := by
  have h : (Try.f8.params.toList.all fun t => Try.prog.readableRec t && decide (t < Try.prog.types.size)) = true := by kernel_rfl
  intro t ht
  have := List.all_eq_true.1 h t ht
  simpa using this

/-! The walk. -/
theorem walk (w : World) (a0 : Int) (w0 : (Lit.int .i64 a0).wf = true) :
    Calls Try.prog 8 #[.int .i64 a0] w fun e w' => e = .returned (.bool true) ∧ Kept w w' := by
  go_enter Try.func8, Try.ntmps8
  go_upto_region 2 with (first
    | (go_at_call 30; (with_reducible refine (l_config16 _).mono ?_); rintro e wa ⟨rfl, hb1⟩)
    | (go_at_call 29; (with_reducible refine (start_six 2 2 rfl (by decide) (by decide) _).mono ?_); rintro e w2 ⟨A, lo, hi, b, rb, rfl, hst⟩))
  have L0 : Hid (Lo wa lo hi b rb q6 A A [] w2) := Lib.hid (Lo.begunN hst)
  have HV : Hid (VB 260 (A 2)) := Lib.hid (by rw [(begun_six hst).1]; exact vb_zero (by decide))
  have HB1 := Lib.hid hb1
  clear hst hb1
  have L1 := Lib.hid (L0.out.new TP #[.pointer (some ⟨b, 0, none⟩), .pointer (some ⟨rb, 0, none⟩)])
  obtain ⟨gp, hn⟩ : ∃ gp, w2.heap.size = gp := ⟨_, rfl⟩
  rw [hn] at L1
  first | rw [hn] | skip
  clear hn
  obtain ⟨W1, hW⟩ : ∃ W', w2.alloc (.cells #[.pointer (some ⟨b, 0, none⟩), .pointer (some ⟨rb, 0, none⟩)] TP) = W' := ⟨_, rfl⟩
  rw [hW] at L1
  first | rw [hW] | skip
  clear hW
  have L1 : Hid (Lo wa lo hi b rb q6 A A [bx gp TP #[.pointer (some ⟨b, 0, none⟩), .pointer (some ⟨rb, 0, none⟩)]] W1) := L1
  clear L0
  obtain ⟨v, hv⟩ : ∃ v, pl a0 100 = v := ⟨_, rfl⟩
  have hpl := k_place a0 100 v (by decide) (by decide) hv
  clear hv HV
  have hnew := x_new L1.out (.slice none 0 0) v [] ⟨⟨none, 0, rfl, Nat.le_refl _, Nat.zero_le _, fun j x hj => by simp at hj⟩, fun g hg => by simp [Value.ownBlock] at hg⟩ (by decide)
  go_upto_region 5 with (first
    | (go_at_call 11; (with_reducible refine (hpl _).mono ?_); rintro e wp ⟨rfl, rfl⟩)
    | (go_at_call 32; (with_reducible refine hnew.mono ?_); rintro e w3 ⟨ga, va, rfl, hL⟩))
  have L2 : Hid (Lo wa lo hi b rb q6 A A [bx gp TP #[.pointer (some ⟨b, 0, none⟩), .pointer (some ⟨rb, 0, none⟩)], ckM ga v va false []] w3) := Lib.hid hL
  clear hL hnew hpl L1
  have hd := x_doneL (i := 1) (k := 0) (xs := []) L2.out rfl (Nat.le_refl _) (D := true) (Lib.hid rfl)
  have hf : ∀ w4, Lo wa lo hi b rb q6 A A [bx gp TP #[.pointer (some ⟨b, 0, none⟩), .pointer (some ⟨rb, 0, none⟩)], ckM ga v va false []] w4 → w4.cell? ⟨gp, 0, none⟩ = some (.pointer (some ⟨b, 0, none⟩)) ∧ Calls _ _ _ _ _ := fun w4 h => ⟨h.c 0 0 rfl rfl, x_failed (i := 1) h rfl⟩
  have hst : ∀ w4, Lo wa lo hi b rb q6 A A [bx gp TP #[.pointer (some ⟨b, 0, none⟩), .pointer (some ⟨rb, 0, none⟩)], ckM ga v va false []] w4 → Calls _ _ _ _ _ := fun w4 h => x_over (i := 1) h rfl rfl
  go_wp2_with (first
    | (go_at_call 35; (with_reducible refine hd.mono ?_); rintro e w4 ⟨rfl, hL4⟩; obtain ⟨q0, hf⟩ := hf _ hL4; have hst := hst _ hL4)
    | (go_at_call 37; (with_reducible refine hf.mono ?_); rintro e w5 ⟨rfl, rfl⟩)
    | (go_at_call 38; (with_reducible refine hst.mono ?_); rintro e w6 ⟨rfl, hL6⟩)
    | (go_at_call 40; (with_reducible refine (l_awake _).mono ?_); rintro e wz ⟨rfl, hbz⟩))
  have HF := Lib.hid (below_trans2 HB1.out (below_trans2 hL6.old hbz))
  clear hbz hL6 hL4 hst hf hd
  go_ret
  exact ⟨rfl, .of_below HF.out⟩

/-! The row's step. -/
set_option maxRecDepth 100000 in
theorem lifted (os : Os) (started : os.Started) (H : Type) (enc : TypeId × Value → H) :
    ReturnsInHanded {} Try.checked os 8 .any (Rows.validatorEmptySpec.pre6 enc Try.prog Try.f8 Rows.validatorEmptyRow.domain false) (Rows.validatorEmptySpec.post enc Try.prog Try.f8 false true false false) := by
  refine returnsInHanded_of_change (C := Try.checked) own started (by kernel_rfl) Try.func8
    (ChangeSpec.witness6 (enc := enc) (C := Try.checked) false ⟨#[], #[.int .i64 0], []⟩ 8 (by kernel_rfl) (by kernel_rfl) (by kernel_rfl) (by kernel_rfl)) ?_
  intro W base args ds gs before hval0 hW hcnd _
  have hval : ∀ (j : Nat) t v, Try.f8.params[j]? = some t → args[j]? = some v → Value.okWide Try.prog W .any base t v := hval0
  have hW' := hW
  obtain ⟨p, q, hA0, hV, rfl, hfz, hnd⟩ := hW
  have hA : DataW.TrodAll enc Try.prog W 0 (fun _ => true) true Try.f8.params.toList args.toList ds p := hA0
  rw [Try.params8] at hA hval
  obtain ⟨v0, vs0, d0, ds0, p0, q0, hargs, rfl, rfl, h0, r0⟩ := trodAll_cons hA
  obtain ⟨rfl, rfl, rfl⟩ := trodAll_nil r0
  obtain rfl : args = #[v0] := by cases args; simp_all
  obtain ⟨rfl, rfl⟩ := trodVars_none hV
  have hk : ∀ W', Kept W W' → Rows.validatorEmptySpec.post enc Try.prog Try.f8 false true false false W #[v0] (.bool true) W' := fun W' hb =>
    post_law laidOut readable rfl Try.underlying4 rfl hW' rfl hb
  clear hA0 hval0 hA hW'
  obtain ⟨a0, rfl, rfl, rfl, w0⟩ := open_int Try.underlying3 (hval 0 3 v0 rfl rfl) h0
  refine (walk W a0 w0).mono fun e W' ⟨he, hg⟩ => ?_
  subst he
  exact ⟨_, rfl, hk W' hg⟩

theorem over : Rows.validatorEmptyRow.holds Try.pinned (OpenSpec.ofChange Rows.validatorEmptySpec) :=
  OpenClaim.holds_of_wide 8 Try.f8 rfl rfl rfl rfl rfl rfl rfl ⟨rfl, rfl, rfl, rfl, rfl⟩ rfl rfl rfl rfl rfl (by kernel_rfl) Try.func8 (by kernel_rfl)
    (of_decide_eq_true (by kernel_rfl)) (by unfold Func.isWrapper; first | (rw [if_pos (by decide +kernel)]; kernel_rfl) | (rw [if_neg (by decide +kernel)]; exact ⟨rfl, rfl⟩))
    (fun os started H enc _ => lifted os started H enc)

/-- The statement. -/
theorem proved : Rows.ValidatorEmptySaid :=
  over
#print axioms proved
end Go.Proofs.Ytdegclfbnldgaaa.validatorEmpty
