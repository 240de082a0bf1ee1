/-
  Proved: for any script, CheckScript gives the thread, the position and the error that the document says (as the reference of layer 7 gives them). No condition.
-/
import Derived.Test.YtaljpggppocnjaaDoorRows
import Derived.WalkKit
import Derived.ProofKit
import Derived.OpenShut
import Derived.Test.YtaljpggppocnjaaDoorFrame
import Derived.LaidMore
import Derived.Stop.Joined
import Derived.SevenTiedAt
import Derived.Test.YtaljpggppocnjaaDoorTie
import Derived.Test.YtaljpggppocnjaaDoorCards
import Derived.Test.YtaljpggppocnjaaDoorScrB
import Derived.Test.YtaljpggppocnjaaDoorScrC
import Derived.Test.YtaljpggppocnjaaDoorLayK
namespace Go.Proofs.YtaljpggppocnjaaDoor.layoutScripts
open Go.ChangeShapes Go.WideShapes Go.ChangeAt Go.RowKit
open LawFrame
open Go.ChangeMaps (open_string)
set_option linter.unusedVariables false

theorem own : ownKnob Tryd.prog.godebug = none := by kernel_rfl
theorem laidOut : laidOutB Tryd.prog = true := by kernel_rfl

open PlainT BlkW IsaE LayS LayA LayH LayK ScrP ScrA ScrB ScrC
set_option maxHeartbeats 4000000
set_option maxRecDepth 100000

theorem readable : ∀ t ∈ Tryd.f6.params.toList, Tryd.prog.readableRec t = true ∧ t < Tryd.prog.types.size := by
  have h : (Tryd.f6.params.toList.all fun t => Tryd.prog.readableRec t && decide (t < Tryd.prog.types.size)) = true := by kernel_rfl
  intro t ht
  have := List.all_eq_true.1 h t ht
  simpa using this

/-! The walk. -/
theorem walk (w : World) (hL : laidMetH Tryd.prog [("strongtx/isa.shapes", Rows.laid_strongtx_isa_shapes)] w) (s0 : ScrP.Scr) (Ai0 : Option Addr) (ci0 : Nat) (Ap0 : Option Addr) (np0 cp0 : Nat) (Ak0 : Option Addr) (nk0 ck0 : Nat) (hs0 : ScrP.Holds w s0 Ai0 ci0 Ap0 np0 cp0 Ak0 nk0 ck0) :
    Calls Tryd.prog 6 #[ScrP.scrV s0.q (.slice Ai0 s0.ni ci0) (.slice Ap0 np0 cp0) (.slice Ak0 nk0 ck0)] w fun e w' => e = .returned (.bool true) ∧ Kept w w' := by
  have hE := env_of_laid hL
  clear hL
  obtain ⟨⟨t, u, v⟩, hcs⟩ : ∃ x, csV s0 = x := ⟨_, rfl⟩
  have HCS := Lib.hid hcs
  have HH := Lib.hid hs0
  have HM := Lib.hid (Mem.new w TS (scells s0.q (.slice Ai0 s0.ni ci0) (.slice Ap0 np0 cp0) (.slice Ak0 nk0 ck0)))
  have HB := Lib.hid (below_new w (.cells (scells s0.q (.slice Ai0 s0.ni ci0) (.slice Ap0 np0 cp0) (.slice Ak0 nk0 ck0)) TS))
  have HE := Lib.hid (hE.alloc (.cells (scells s0.q (.slice Ai0 s0.ni ci0) (.slice Ap0 np0 cp0) (.slice Ak0 nk0 ck0)) TS))
  obtain ⟨⟨i1, i2⟩, ⟨p1, p2⟩, ⟨k1, k2⟩, _, _⟩ := hs0
  unfold maxLen at i2 p2 k2
  have HO := Lib.hid (HH.out.old (.of_below HB.out))
  clear hcs hE
  by_cases hbig : 20 < np0 ∨ 80 < s0.ni ∨ 80 < nk0
  · have a : 20 < np0 ∨ (¬ 20 < np0 ∧ 80 < s0.ni) ∨ (¬ 20 < np0 ∧ ¬ 80 < s0.ni ∧ 80 < nk0) := by omega
    clear hbig
    rcases a with a | ⟨a, b⟩ | ⟨a, b, c⟩
    all_goals
      go_enter Tryd.func6, Tryd.ntmps6
      go_wp2_with (go_at_call 16; (with_reducible refine (l_awake _).mono ?_); rintro e w4 ⟨rfl, hb4⟩; have HB4 := Lib.hid (below_trans2 HB.out hb4); clear hb4)
      go_ret
      exact ⟨rfl, Kept.of_below HB4.out⟩
  · have a : ¬ 20 < np0 := by omega
    have b : ¬ 80 < s0.ni := by omega
    have c : ¬ 80 < nk0 := by omega
    clear hbig
    go_enter Tryd.func6, Tryd.ntmps6
    go_wp2_with (first
      | (go_at_call 17; (with_reducible refine (a_script s0 Ai0 ci0 Ap0 np0 cp0 Ak0 nk0 ck0 _ HE.out HO.out t u v HCS.out).mono ?_); rintro e w2 ⟨rfl, hb2⟩; have HB2 := Lib.hid (below_trans2 HB.out hb2); have HM2 := Lib.hid (HM.out.below hb2 HM.out.lt); have HO2 := Lib.hid (HO.out.old (.of_below hb2)); clear hb2; obtain ⟨d0, d1, d2, d3, d4, d5, d6, d7, d8, d9, d10, d11, d12, d13, d14, d15⟩ := sbox_cells HM2.out)
      | (go_at_call 18; (with_reducible refine (r_script s0 Ai0 ci0 Ap0 np0 cp0 Ak0 nk0 ck0 _ HO2.out t u v HCS.out).mono ?_); rintro e w3 ⟨rfl, hb3⟩; have HB3 := Lib.hid (below_trans2 HB2.out hb3); clear hb3)
      | (go_at_call 16; (with_reducible refine (l_awake _).mono ?_); rintro e w4 ⟨rfl, hb4⟩; have HB4 := Lib.hid (below_trans2 HB3.out hb4); clear hb4))
    go_ret
    exact ⟨rfl, Kept.of_below HB4.out⟩

/-! The heap that the program's own initialisers leave meets the row's condition. -/
theorem door_met (os : Os) (args : Array Value) : laidMetH Tryd.prog [("strongtx/isa.shapes", Rows.laid_strongtx_isa_shapes)] ((World.doorLaid Tryd.prog 400 os).forCall (fun _ _ => 0) ⟨#[], args, []⟩).memory :=
  laidMetH_of_parts3 (fuel := 8) (laidMet_of_run' 8 (by kernel_rfl) (by kernel_rfl)) (by kernel_rfl) (by kernel_rfl)

/-! The row's step. -/
set_option maxRecDepth 100000 in
theorem lifted (os : Os) (started : os.Started) (H : Type) (enc : TypeId × Value → H) :
    ReturnsInHanded {} Tryd.checked os 6 .any (fun w args => (Rows.layoutScriptsSpec.pre enc Tryd.prog Tryd.f6 Rows.layoutScriptsRow.domain false w args ∧ laidMetH Tryd.prog [("strongtx/isa.shapes", Rows.laid_strongtx_isa_shapes)] w) ∧ sizedMet enc Tryd.prog Tryd.f6 (OpenSpec.ofChange Rows.layoutScriptsSpec) false w args)
      (Rows.layoutScriptsSpec.post enc Tryd.prog Tryd.f6 false true false false) := by
  refine returnsInHanded_of_change_and (C := Tryd.checked) (X := fun w _ => laidMetH Tryd.prog [("strongtx/isa.shapes", Rows.laid_strongtx_isa_shapes)] w) (fun _ _ _ hh h => h.of_heap hh) own started (by kernel_rfl) Tryd.func6
    (ChangeSpec.witness_shaped (enc := enc) (C := Tryd.checked) (os := os) (X := fun w _ => laidMetH Tryd.prog [("strongtx/isa.shapes", Rows.laid_strongtx_isa_shapes)] w) false (World.doorLaid Tryd.prog 400 os) #[.agg #[.int .i64 0, .int .i64 0, .int .i64 0, .int .i64 0, .int .i64 0, .int .i64 0, .int .i64 0, .int .i64 0, .int .i64 0, .int .i64 0, .int .i64 0, .int .i64 0, .bool false, .slice none 0 0, .slice none 0 0, .slice none 0 0]] 8 rfl (World.shaped_of_RefB (by kernel_rfl) (by kernel_rfl)) (by kernel_rfl) (by kernel_rfl) (by kernel_rfl) (door_met os _)) ?_
  intro W base args ds gs before hval0 hW hcnd _ hL _
  have hval : ∀ (j : Nat) t v, Tryd.f6.params[j]? = some t → args[j]? = some v → Value.okWide Tryd.prog W .any base t v := hval0
  have hW' := hW
  obtain ⟨p, q, hA0, hV, rfl, hfz, hnd⟩ := hW
  have hA : DataW.TrodAll enc Tryd.prog W 0 (fun _ => true) true Tryd.f6.params.toList args.toList ds p := hA0
  rw [Tryd.params6] at hA hval
  obtain ⟨v0, vs0, d0, ds0, p0, q0, hargs, rfl, rfl, h0, r0⟩ := trodAll_cons hA
  obtain ⟨rfl, rfl, rfl⟩ := trodAll_nil r0
  obtain rfl : args = #[v0] := by cases args; simp_all
  obtain ⟨rfl, rfl⟩ := trodVars_none hV
  have hk : ∀ W', Kept W W' → Rows.layoutScriptsSpec.post enc Tryd.prog Tryd.f6 false true false false W #[v0] (.bool true) W' := fun W' hb =>
    post_law laidOut readable rfl Tryd.underlying4 rfl hW' rfl hb
  clear hA0 hval0 hA hW'
  obtain ⟨s0, Ai0, ci0, Ap0, np0, cp0, Ak0, nk0, ck0, rfl, hs0⟩ := ScrP.open_script (hval 0 47 v0 rfl rfl) h0
  refine (walk W hL s0 Ai0 ci0 Ap0 np0 cp0 Ak0 nk0 ck0 hs0).mono fun e W' ⟨he, hg⟩ => ?_
  subst he
  exact ⟨_, rfl, hk W' hg⟩

theorem over : Rows.layoutScriptsRow.holds Tryd.pinned (OpenSpec.ofChange Rows.layoutScriptsSpec) :=
  OpenClaim.holds_of_wide 6 Tryd.f6 rfl rfl rfl rfl rfl rfl rfl ⟨rfl, rfl, rfl, rfl, rfl⟩ rfl rfl rfl rfl rfl (by kernel_rfl) Tryd.func6 (by kernel_rfl)
    (of_decide_eq_true (by kernel_rfl)) (by unfold Func.isWrapper; first | (rw [if_pos (by decide +kernel)]; kernel_rfl) | (rw [if_neg (by decide +kernel)]; exact ⟨rfl, rfl⟩))
    (fun os started H enc _ => lifted os started H enc)

/-- The row. -/
theorem row : Rows.LayoutScriptsSaid :=
  over

/-- The statement: the tied card. -/
theorem proved : Rows.LayoutScriptsCardSaid :=
  Claim7.holds_tied_plain_at .later [] [.data] true (true, "114f5eb595008e71fc0be3494cedf91214b198936b64a5bce8439699dcb29982") false
    row (fun _ h => by cases h) (by kernel_rfl) (fun _ h => by cases h) layoutScripts_row_tie rfl ⟨rfl, rfl⟩ (by kernel_rfl) rfl
    (fun f fn hf hfn => by
      obtain rfl : f = 6 := Option.some.inj ((show Tryd.prog.funcNamed "strongtx/strongtxlaw07.LayoutScripts" = some 6 by kernel_rfl).symm.trans hf) |>.symm
      obtain rfl : fn = Tryd.f6 := (Option.some.inj (Tryd.func6.symm.trans hfn)).symm
      exact ⟨by kernel_rfl, fun j t ht => by
        rw [Tryd.params6] at ht
        have hm : t ∈ [47] := by simpa using Array.mem_of_getElem? ht
        have hall : ([47].all fun u => !Tryd.prog.wantsStandIn u) = true := by kernel_rfl
        exact (show Tryd.prog.wantsStandIn t = false by simpa using List.all_eq_true.1 hall t hm)⟩)
    (by kernel_rfl)
#print axioms proved
end Go.Proofs.YtaljpggppocnjaaDoor.layoutScripts
