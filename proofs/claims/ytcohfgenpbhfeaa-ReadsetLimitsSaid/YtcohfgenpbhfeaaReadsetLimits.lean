/-
  Proved: a set of a negative capacity takes nothing, a set of a great one MaxReads elements, any other as many as its capacity. No condition.
-/
import Derived.Test.YtcohfgenpbhfeaaRows
import Derived.WalkKit
import Derived.ProofKit
import Derived.OpenShut
import Derived.Test.YtcohfgenpbhfeaaFrame
import Derived.Test.YtcohfgenpbhfeaaRsC
import Derived.Deep.RegionHeld3
import Derived.Deep.RegionLaw
namespace Go.Proofs.Ytcohfgenpbhfeaa.readsetLimits
open Go.ChangeShapes Go.WideShapes Go.ChangeAt Go.RowKit
open LawFrame
open Go.ChangeMaps (open_string)
set_option linter.unusedVariables false

theorem own : ownKnob Try.prog.godebug = none := by kernel_rfl
theorem laidOut : laidOutB Try.prog = true := by kernel_rfl

open PlainT BlkW CelS CelM CelV CelN LabD FreV FreI RsA RsB RsC
set_option maxHeartbeats 2000000
set_option maxRecDepth 100000
def upTo (n : Nat) : List Int := (List.range n).map fun k : Nat => (k : Int)
theorem upTo_len (n : Nat) : (upTo n).length = n := by simp [upTo]
theorem upTo_not (n : Nat) : ¬ (n : Int) ∈ upTo n := by
  simp [upTo]
  intro x hx
  omega
theorem upTo_add {n : Nat} {q : Int} (h : (n : Int) < q) : adds q (upTo n) n = upTo (n + 1) ∧ said q (upTo n) n = true := by
  unfold adds said
  rw [if_neg (upTo_not n), upTo_len, if_pos h, decide_eq_true h, Bool.or_true]
  exact ⟨by simp [upTo, List.range_succ], rfl⟩
theorem upTo_full {n : Nat} {q : Int} (h : ¬ (n : Int) < q) : adds q (upTo n) n = upTo n ∧ said q (upTo n) n = false := by
  unfold adds said
  rw [if_neg (upTo_not n), upTo_len, if_neg h, decide_eq_false h, decide_eq_false (upTo_not n)]
  exact ⟨rfl, rfl⟩

theorem readable : ∀ t ∈ Try.f6.params.toList, Try.prog.readableRec t = true ∧ t < Try.prog.types.size := by
  have h : (Try.f6.params.toList.all fun t => Try.prog.readableRec t && decide (t < Try.prog.types.size)) = true := by kernel_rfl
  intro t ht
  have := List.all_eq_true.1 h t ht
  simpa using this

/-! The walk. -/
theorem walk (w : World) (a0 : Int) (w0 : (Lit.int .i64 a0).wf = true) :
    Calls Try.prog 6 #[.int .i64 a0] w fun e w' => e = .returned (.bool true) ∧ Kept w w' := by
  obtain ⟨q, hq⟩ : ∃ q, max 0 (min a0 32) = q := ⟨_, rfl⟩
  have q0 : 0 ≤ q := by omega
  have q32 : q ≤ 32 := by omega
  have hcs : (a0 < 0 ∧ a0 ≤ 32 ∧ q = 0) ∨ (0 < a0 ∧ 32 < a0 ∧ q = 32) ∨ (0 < a0 ∧ a0 ≤ 32 ∧ q = a0) ∨ (a0 = 0 ∧ q = 0) := by omega
  have HC := Lib.hid hcs
  have hnw := a_new w a0 q hq
  clear hq hcs
  go_enter Try.func6, Try.ntmps6
  go_upto_region 4 with (go_at_call 8; refine hnw.mono ?_; rintro e w1 ⟨rfl, rfl⟩)
  have hS0 := set_new w TS w.heap.size q (by decide) (Nat.le_refl _) q0 q32
  have hB0 := below_new w (.cells #[.int .i64 q, .slice none 0 0] TS)
  obtain ⟨W0, hW⟩ : ∃ W', w.alloc (.cells #[.int .i64 q, .slice none 0 0] TS) = W' := ⟨_, rfl⟩
  rw [hW] at hS0 hB0
  first | rw [hW] | skip
  clear hW hnw
  have HB0 := Lib.hid hB0
  have HS0 := Lib.hid hS0
  clear hB0 hS0
  go_wp2_with fail
  go_loopw [4] (fun kv wr => ∃ (k : Nat) (v : Value), (k : Int) ≤ q ∧ kv = .int .i64 k ∧ SetIs wr w.heap.size w.heap.size TS q v (upTo k) ∧ Below w.heap.size w wr) (fun kv _ => 40 - (intOf kv).toNat)
  case atStart => exact ⟨0, _, q0, rfl, HS0.out, HB0.out⟩
  case round =>
    clear HS0 HB0
    obtain ⟨k, v, hk, rfl, hs, hb⟩ := hrel
    have HS := Lib.hid hs
    have HB := Lib.hid hb
    have hz := hb.size
    clear hs hb
    by_cases hlt : (k : Int) < q
    · have hc := a_add_to HS.out hz k true (upTo (k + 1)) (upTo_add hlt).2 (upTo_add hlt).1
      have h100 : (k : Int) < 100 := by omega
      go_wp2_with (go_at_call 11; (with_reducible refine hc.mono ?_); rintro e w2 ⟨rfl, v1, hS1, hF1, _⟩)
      have HS1 := Lib.hid hS1
      have HB1 := Lib.hid (HB.out.trans (HS.out.step hz hF1))
      clear hS1 hF1 hc HS HB
      go_roundw
      case rel => exact ⟨k + 1, v1, by omega, by go_num, HS1.out, HB1.out⟩
      case measure => simp [intOf]; omega
    · have hc := a_add_to HS.out hz k false (upTo k) (upTo_full hlt).2 (upTo_full hlt).1
      obtain rfl : q = k := by omega
      have hcs := HC.out
      clear HC
      rcases hcs with ⟨h1, h2, h3⟩ | ⟨h1, h2, h3⟩ | ⟨h1, h2, h3⟩ | ⟨h1, h3⟩
      · obtain rfl : k = 0 := by omega
        rw [show ((0 : Nat) : Int) = 0 from rfl] at hc
        go_wp2_with (first
          | (go_at_call 11; (with_reducible refine hc.mono ?_); rintro e w2 ⟨rfl, v1, hS1, hF1, _⟩; have HB1 := Lib.hid (HB.out.trans (HS.out.step hz hF1)))
          | (go_at_call 7; refine (RsC.l_awake _).mono ?_; rintro e w3 ⟨rfl, hb3⟩))
        go_ret
        exact ⟨rfl, .of_below (HB1.out.trans (hb3.mono HB1.out.size))⟩
      · obtain rfl : k = 32 := by omega
        rw [show ((32 : Nat) : Int) = 32 from rfl] at hc
        go_wp2_with (first
          | (go_at_call 11; (with_reducible refine hc.mono ?_); rintro e w2 ⟨rfl, v1, hS1, hF1, _⟩; have HB1 := Lib.hid (HB.out.trans (HS.out.step hz hF1)))
          | (go_at_call 7; refine (RsC.l_awake _).mono ?_; rintro e w3 ⟨rfl, hb3⟩))
        go_ret
        exact ⟨rfl, .of_below (HB1.out.trans (hb3.mono HB1.out.size))⟩
      · subst h3
        go_wp2_with (first
          | (go_at_call 11; (with_reducible refine hc.mono ?_); rintro e w2 ⟨rfl, v1, hS1, hF1, _⟩; have HB1 := Lib.hid (HB.out.trans (HS.out.step hz hF1)))
          | (go_at_call 7; refine (RsC.l_awake _).mono ?_; rintro e w3 ⟨rfl, hb3⟩))
        go_ret
        exact ⟨rfl, .of_below (HB1.out.trans (hb3.mono HB1.out.size))⟩
      · obtain rfl : k = 0 := by omega
        rw [show ((0 : Nat) : Int) = 0 from rfl] at hc
        subst h1
        go_wp2_with (first
          | (go_at_call 11; (with_reducible refine hc.mono ?_); rintro e w2 ⟨rfl, v1, hS1, hF1, _⟩; have HB1 := Lib.hid (HB.out.trans (HS.out.step hz hF1)))
          | (go_at_call 7; refine (RsC.l_awake _).mono ?_; rintro e w3 ⟨rfl, hb3⟩))
        go_ret
        exact ⟨rfl, .of_below (HB1.out.trans (hb3.mono HB1.out.size))⟩

/-! The row's step. -/
set_option maxRecDepth 100000 in
theorem lifted (os : Os) (started : os.Started) (H : Type) (enc : TypeId × Value → H) :
    ReturnsInHanded {} Try.checked os 6 .any (Rows.readsetLimitsSpec.pre6 enc Try.prog Try.f6 Rows.readsetLimitsRow.domain false) (Rows.readsetLimitsSpec.post enc Try.prog Try.f6 false true false false) := by
  refine returnsInHanded_of_change (C := Try.checked) own started (by kernel_rfl) Try.func6
    (ChangeSpec.witness6 (enc := enc) (C := Try.checked) false ⟨#[], #[.int .i64 0], []⟩ 8 (by kernel_rfl) (by kernel_rfl) (by kernel_rfl) (by kernel_rfl)) ?_
  intro W base args ds gs before hval0 hW hcnd _
  have hval : ∀ (j : Nat) t v, Try.f6.params[j]? = some t → args[j]? = some v → Value.okWide Try.prog W .any base t v := hval0
  have hW' := hW
  obtain ⟨p, q, hA0, hV, rfl, hfz, hnd⟩ := hW
  have hA : DataW.TrodAll enc Try.prog W 0 (fun _ => true) true Try.f6.params.toList args.toList ds p := hA0
  rw [Try.params6] at hA hval
  obtain ⟨v0, vs0, d0, ds0, p0, q0, hargs, rfl, rfl, h0, r0⟩ := trodAll_cons hA
  obtain ⟨rfl, rfl, rfl⟩ := trodAll_nil r0
  obtain rfl : args = #[v0] := by cases args; simp_all
  obtain ⟨rfl, rfl⟩ := trodVars_none hV
  have hk : ∀ W', Kept W W' → Rows.readsetLimitsSpec.post enc Try.prog Try.f6 false true false false W #[v0] (.bool true) W' := fun W' hb =>
    post_law laidOut readable rfl Try.underlying4 rfl hW' rfl hb
  clear hA0 hval0 hA hW'
  obtain ⟨a0, rfl, rfl, rfl, w0⟩ := open_int Try.underlying3 (hval 0 3 v0 rfl rfl) h0
  refine (walk W a0 w0).mono fun e W' ⟨he, hg⟩ => ?_
  subst he
  exact ⟨_, rfl, hk W' hg⟩

theorem over : Rows.readsetLimitsRow.holds Try.pinned (OpenSpec.ofChange Rows.readsetLimitsSpec) :=
  OpenClaim.holds_of_wide 6 Try.f6 rfl rfl rfl rfl rfl rfl rfl ⟨rfl, rfl, rfl, rfl, rfl⟩ rfl rfl rfl rfl rfl (by kernel_rfl) Try.func6 (by kernel_rfl)
    (of_decide_eq_true (by kernel_rfl)) (by unfold Func.isWrapper; first | (rw [if_pos (by decide +kernel)]; kernel_rfl) | (rw [if_neg (by decide +kernel)]; exact ⟨rfl, rfl⟩))
    (fun os started H enc _ => lifted os started H enc)

/-- The statement. -/
theorem proved : Rows.ReadsetLimitsSaid :=
  over
#print axioms proved
end Go.Proofs.Ytcohfgenpbhfeaa.readsetLimits
