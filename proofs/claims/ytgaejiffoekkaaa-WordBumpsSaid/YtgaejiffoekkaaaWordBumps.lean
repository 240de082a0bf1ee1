/-
  Proved: for every head and every list of at most 50 tops, k calls of word.Bump add k to the tag modulo 2^48 and set the top, and each changes the tag (a longer list is answered by the sanity check alone). No condition.
-/
import Derived.Test.YtgaejiffoekkaaaRows
import Derived.WalkKit
import Derived.ProofKit
import Derived.OpenShut
import Derived.Test.YtgaejiffoekkaaaFrame
import Derived.Test.YtgaejiffoekkaaaWord
import Derived.Lib.Hide
namespace Go.Proofs.Ytgaejiffoekkaaa.wordBumps
open Go.ChangeShapes Go.WideShapes Go.ChangeAt Go.RowKit
open LawFrame
set_option linter.unusedVariables false

theorem own : ownKnob Try.prog.godebug = none := by kernel_rfl
theorem laidOut : laidOutB Try.prog = true := by kernel_rfl
theorem cells3 : Try.prog.cellsOf 3 = 1 := by kernel_rfl

open WordC
theorem tm (a m : Int) (h0 : 0 < m) (h1 : m ≤ 9223372036854775807) : ∃ v : Int, wrap64 ((IntKind.u64.wrap a).tmod m) = v ∧ 0 ≤ v ∧ v ≤ m - 1 := by
  have hu : 0 ≤ IntKind.u64.wrap a := (bounds_u64 (wf_wrap .u64 a)).1
  rw [Int.tmod_eq_emod_of_nonneg hu]
  have a0 := Int.emod_nonneg (IntKind.u64.wrap a) (by omega : m ≠ 0)
  have a1 := Int.emod_lt_of_pos (IntKind.u64.wrap a) h0
  refine ⟨(IntKind.u64.wrap a) % m, ?_, by omega, by omega⟩
  exact IntWalk.wrap64_in _ (by omega)

def Rel (a : Int) (n k : Nat) (x : Int) : Prop :=
  k ≤ n ∧ 0 ≤ x ∧ x ≤ 18446744073709551615 ∧ x / 65536 = (a / 65536 + k) % 281474976710656
theorem Rel.start (a : Int) (n : Nat) (h0 : 0 ≤ a) (h1 : a ≤ 18446744073709551615) : Rel a n 0 a :=
  ⟨Nat.zero_le _, h0, h1, by omega⟩
theorem Rel.next {a : Int} {n k : Nat} {x p : Int} (h : Rel a n k x) (hk : k < n) (p0 : 0 ≤ p) (p1 : p ≤ 65 - 1) : Rel a n (k + 1) ((x / 65536 + 1) % 281474976710656 * 65536 + p) := by
  obtain ⟨_, x0, x1, hx⟩ := h
  refine ⟨by omega, by omega, by omega, ?_⟩
  push_cast
  omega

theorem readable : ∀ t ∈ Try.f8.params.toList, Try.prog.readableRec t = true ∧ t < Try.prog.types.size := by
  have h : (Try.f8.params.toList.all fun t => Try.prog.readableRec t && decide (t < Try.prog.types.size)) = true := by kernel_rfl
  intro t ht
  have := List.all_eq_true.1 h t ht
  simpa using this

/-! The walk. -/
theorem walk (w : World) (a0 : Int) (w0 : (Lit.int .u64 a0).wf = true) (A1 : Option Addr) (n1 c1 : Nat) (z1 : List Int) (l1 : n1 ≤ c1) (m1 : c1 ≤ maxLen) (s1 : Ints .i64 w A1 n1 z1) :
    Calls Try.prog 8 #[.int .u64 a0, .slice A1 n1 c1] w fun e w' => e = .returned (.bool true) ∧ Kept w w' := by
  obtain ⟨b0, b1⟩ := bounds_u64 w0
  obtain ⟨sl, _, sc⟩ := s1
  clear w0
  unfold maxLen at m1
  by_cases h50 : n1 ≤ 50
  · go_enter Try.func8, Try.ntmps8
    go_wp2
    go_loop [5, 6] (fun h i => ∃ (k : Nat) (x : Int), Rel a0 n1 k x ∧ h = .int .u64 x ∧ i = .int .i64 k) (fun _ i => n1 - (intOf i).toNat)
    case atStart => exact ⟨0, a0, Rel.start _ _ b0 b1, rfl, rfl⟩
    case round =>
      obtain ⟨k, x, hr, rfl, rfl⟩ := hrel
      have HR := Lib.hid hr
      obtain ⟨hk, x0, x1, hx⟩ := hr
      by_cases hlt : k < n1
      · obtain ⟨bb, off, rfl, hb, hc⟩ := sc (by omega)
        have hcell := hc k hlt
        generalize z1.getD k 0 = z at hcell
        clear hc sc sl
        obtain ⟨p, ep, p0, p1⟩ := tm z 65 (by omega) (by omega)
        have y0 : 0 ≤ (x / 65536 + 1) % 281474976710656 * 65536 + p := by omega
        have y1 : (x / 65536 + 1) % 281474976710656 * 65536 + p ≤ 18446744073709551615 := by omega
        have t0 : ((x / 65536 + 1) % 281474976710656 * 65536 + p) % 65536 - 1 = p - 1 := by omega
        have t1 : ((x / 65536 + 1) % 281474976710656 * 65536 + p) / 65536 = (x / 65536 + 1) % 281474976710656 := by omega
        have t2 : ((x / 65536 + 1) % 281474976710656 == x / 65536) = false := by rw [beq_eq_false_iff_ne]; omega
        have t3 : (a0 / 65536 + k + 1) % 281474976710656 = (x / 65536 + 1) % 281474976710656 := by omega
        have g0 : 0 ≤ a0 / 65536 + k := by omega
        have g1 : a0 / 65536 + k + 1 ≤ 9223372036854775807 := by omega
        clear hx
        go_wp2_with (first | (go_at_call 30; refine (w_bump _ _ (by omega) (by omega) (by omega) (by omega) _).mono ?_; rintro e w1 ⟨rfl, rfl⟩) | (go_at_call 24; refine (w_top _ (by omega) (by omega) _).mono ?_; rintro e w1 ⟨rfl, rfl⟩) | (go_at_call 22; refine (w_tag _ (by omega) (by omega) _).mono ?_; rintro e w1 ⟨rfl, rfl⟩) | (go_at_call 13; refine (awake _).mono ?_; rintro e w1 ⟨rfl, rfl⟩))
        go_round
        case rel => exact ⟨k + 1, _, Rel.next HR.out hlt p0 p1, rfl, by go_num⟩
        case measure => simp [intOf]; omega
      · have hk' : k = n1 := by omega
        clear hx HR
        go_wp2_with (first | (go_at_call 13; refine (awake _).mono ?_; rintro e w1 ⟨rfl, rfl⟩))
        go_ret
        exact ⟨rfl, Kept.refl _⟩
  · have h50' : 50 < n1 := by omega
    clear h50
    go_enter Try.func8, Try.ntmps8
    go_wp2_with (first | (go_at_call 13; refine (awake _).mono ?_; rintro e w1 ⟨rfl, rfl⟩))
    go_ret
    exact ⟨rfl, Kept.refl _⟩

/-! The row's step. -/
set_option maxRecDepth 100000 in
theorem lifted (os : Os) (started : os.Started) (H : Type) (enc : TypeId × Value → H) :
    ReturnsInHanded {} Try.checked os 8 .any (Rows.wordBumpsSpec.pre6 enc Try.prog Try.f8 Rows.wordBumpsRow.domain false) (Rows.wordBumpsSpec.post enc Try.prog Try.f8 false true false false) := by
  refine returnsInHanded_of_change (C := Try.checked) own started (by kernel_rfl) Try.func8
    (ChangeSpec.witness6 (enc := enc) (C := Try.checked) false ⟨#[], #[.int .u64 0, .slice none 0 0], []⟩ 8 (by kernel_rfl) (by kernel_rfl) (by kernel_rfl) (by kernel_rfl)) ?_
  intro W base args ds gs before hval0 hW hcnd _
  have hval : ∀ (j : Nat) t v, Try.f8.params[j]? = some t → args[j]? = some v → Value.okWide Try.prog W .any base t v := hval0
  have hW' := hW
  obtain ⟨p, q, hA0, hV, rfl, hfz, hnd⟩ := hW
  have hA : DataW.TrodAll enc Try.prog W 0 (fun _ => true) true Try.f8.params.toList args.toList ds p := hA0
  rw [Try.params8] at hA hval
  obtain ⟨v0, vs0, d0, ds0, p0, q0, hargs, rfl, rfl, h0, r0⟩ := trodAll_cons hA
  obtain ⟨v1, vs1, d1, ds1, p1, q1, rfl, rfl, rfl, h1, r1⟩ := trodAll_cons r0
  obtain ⟨rfl, rfl, rfl⟩ := trodAll_nil r1
  obtain rfl : args = #[v0, v1] := by cases args; simp_all
  obtain ⟨rfl, rfl⟩ := trodVars_none hV
  have hk : ∀ W', Kept W W' → Rows.wordBumpsSpec.post enc Try.prog Try.f8 false true false false W #[v0, v1] (.bool true) W' := fun W' hb =>
    post_law laidOut readable rfl Try.underlying4 rfl hW' rfl hb
  clear hA0 hval0 hA hW'
  obtain ⟨a0, rfl, rfl, rfl, w0⟩ := open_int Try.underlying22 (hval 0 22 v0 rfl rfl) h0
  obtain ⟨A1, n1, c1, z1, rfl, l1, m1, s1⟩ := open_slice Try.underlying36 Try.underlying3 cells3 (hval 1 36 v1 rfl rfl) h1
  refine (walk W a0 w0 A1 n1 c1 z1 l1 m1 s1).mono fun e W' ⟨he, hg⟩ => ?_
  subst he
  exact ⟨_, rfl, hk W' hg⟩

theorem over : Rows.wordBumpsRow.holds Try.pinned (OpenSpec.ofChange Rows.wordBumpsSpec) :=
  OpenClaim.holds_of_wide 8 Try.f8 rfl rfl rfl rfl rfl rfl rfl ⟨rfl, rfl, rfl, rfl, rfl⟩ rfl rfl rfl rfl rfl (by kernel_rfl) Try.func8 (by kernel_rfl)
    (of_decide_eq_true (by kernel_rfl)) (by unfold Func.isWrapper; first | (rw [if_pos (by decide +kernel)]; kernel_rfl) | (rw [if_neg (by decide +kernel)]; exact ⟨rfl, rfl⟩))
    (fun os started H enc _ => lifted os started H enc)

/-- The statement. -/
theorem proved : Rows.WordBumpsSaid :=
  over
#print axioms proved
end Go.Proofs.Ytgaejiffoekkaaa.wordBumps
