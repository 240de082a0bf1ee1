/-
  Proved: for every two words, exactly one of less, equal and greater holds, as signed and as unsigned integers, and, as floats, exactly if none of the two is a NaN; equal and different exclude one another; and the two zeros are equal as floats. No condition.
-/
import Derived.Test.YtkboeeakilhbhaaDoorRows
import Derived.WalkKit
import Derived.ProofKit
import Derived.OpenShut
import Derived.Test.YtkboeeakilhbhaaDoorFrame
import Derived.LaidMore
import Derived.Stop.Joined
import Derived.SevenTiedAt
import Derived.Test.YtkboeeakilhbhaaDoorTie
import Derived.Test.YtkboeeakilhbhaaDoorCards
import Derived.Test.YtkboeeakilhbhaaDoorAluLaw
namespace Go.Proofs.YtkboeeakilhbhaaDoor.aluCompares
open Go.ChangeShapes Go.WideShapes Go.ChangeAt Go.RowKit
open LawFrame
open Go.ChangeMaps (open_string)
set_option linter.unusedVariables false

theorem own : ownKnob Tryd.prog.godebug = none := by kernel_rfl
theorem laidOut : laidOutB Tryd.prog = true := by kernel_rfl

open Flt AluC TabC AluL
def Bit (v : Int) : Prop := v = 0 ∨ v = 1
theorem bit_tr (b : Bool) : Bit (tr b) := by cases b; exact .inl rfl; exact .inr rfl
theorem sum_u (x y : Int) : ∃ p q r s, appV 11 x y = p ∧ appV 11 y x = q ∧ appV 8 x y = r ∧ appV 9 x y = s ∧ p + q + r = 1 ∧ r + s = 1 := by
  refine ⟨_, _, _, _, rfl, rfl, rfl, rfl, ?_, ?_⟩
  · show tr (decide (x < y)) + tr (decide (y < x)) + tr (x == y) = 1
    rcases Int.lt_trichotomy x y with h | h | h
    · have h1 : ¬ y < x := by omega
      have h2 : (x == y) = false := by rw [beq_eq_false_iff_ne]; omega
      rw [h2, decide_eq_true h, decide_eq_false h1]; rfl
    · subst h
      simp [tr]
    · have h1 : ¬ x < y := by omega
      have h2 : (x == y) = false := by rw [beq_eq_false_iff_ne]; omega
      rw [h2, decide_eq_true h, decide_eq_false h1]; rfl
  · show tr (x == y) + tr (x != y) = 1
    cases h : (x == y) <;> simp [bne, h, tr]
theorem sum_s (x y : Int) (hx0 : 0 ≤ x) (hx1 : x ≤ 18446744073709551615) (hy0 : 0 ≤ y) (hy1 : y ≤ 18446744073709551615) : ∃ p q r s, appV 10 x y = p ∧ appV 10 y x = q ∧ appV 8 x y = r ∧ appV 9 x y = s ∧ p + q + r = 1 ∧ r + s = 1 := by
  obtain ⟨_, _, r, s, _, _, er, es, _, hrs⟩ := sum_u x y
  refine ⟨_, _, _, _, rfl, rfl, rfl, rfl, ?_, by rw [er, es]; exact hrs⟩
  show tr (decide (wrap64 x < wrap64 y)) + tr (decide (wrap64 y < wrap64 x)) + tr (x == y) = 1
  have hw : wrap64 x = wrap64 y → x = y := by
    intro h
    unfold wrap64 at h
    omega
  rcases Int.lt_trichotomy (wrap64 x) (wrap64 y) with h | h | h
  · have h1 : ¬ wrap64 y < wrap64 x := by omega
    have h2 : (x == y) = false := by rw [beq_eq_false_iff_ne]; intro e; subst e; omega
    rw [h2, decide_eq_true h, decide_eq_false h1]; rfl
  · obtain rfl := hw h
    simp [tr]
  · have h1 : ¬ wrap64 x < wrap64 y := by omega
    have h2 : (x == y) = false := by rw [beq_eq_false_iff_ne]; intro e; subst e; omega
    rw [h2, decide_eq_true h, decide_eq_false h1]; rfl
theorem sum_f (x y : Int) (hx0 : 0 ≤ x) (hx1 : x ≤ 18446744073709551615) (hy0 : 0 ≤ y) (hy1 : y ≤ 18446744073709551615) : ∃ p q r, appV 19 x y = p ∧ appV 19 y x = q ∧ appV 18 x y = r ∧ p + q + r = if nanI x = true ∨ nanI y = true then 0 else 1 := by
  refine ⟨_, _, _, rfl, rfl, rfl, ?_⟩
  show tr (ltV x y) + tr (ltV y x) + tr (eqV x y) = _
  by_cases hn : nanI x = true ∨ nanI y = true
  · rw [if_pos hn, ltV_nan x y hn, ltV_nan y x hn.symm, eqV_nan x y hn]; rfl
  · have nx : nanI x = false := by rw [Bool.eq_false_iff]; exact fun h => hn (.inl h)
    have ny : nanI y = false := by rw [Bool.eq_false_iff]; exact fun h => hn (.inr h)
    rw [if_neg hn, ltV_num x y nx ny, ltV_num y x ny nx, eqV_num x y nx ny]
    rcases Int.lt_trichotomy (keyI x) (keyI y) with h | h | h
    · rw [decide_eq_true h, decide_eq_false (by omega : ¬ keyI y < keyI x), decide_eq_false (by omega : ¬ keyI x = keyI y)]; rfl
    · rw [h]; simp [tr]
    · rw [decide_eq_true h, decide_eq_false (by omega : ¬ keyI x < keyI y), decide_eq_false (by omega : ¬ keyI x = keyI y)]; rfl

theorem readable : ∀ t ∈ Tryd.f9.params.toList, Tryd.prog.readableRec t = true ∧ t < Tryd.prog.types.size := by
  have h : (Tryd.f9.params.toList.all fun t => Tryd.prog.readableRec t && decide (t < Tryd.prog.types.size)) = true := by kernel_rfl
  intro t ht
  have := List.all_eq_true.1 h t ht
  simpa using this

/-! The walk. -/
theorem walk (w : World) (hL : laidMetH Tryd.prog [("strongtx/alu.names", Rows.laid_strongtx_alu_names)] w) (a0 : Int) (w0 : (Lit.int .u64 a0).wf = true) (a1 : Int) (w1 : (Lit.int .u64 a1).wf = true) :
    Calls Tryd.prog 9 #[.int .u64 a0, .int .u64 a1] w fun e w' => e = .returned (.bool true) ∧ Kept w w' := by
  have HT := tab_of_laid hL
  clear hL
  obtain ⟨b0, c0⟩ := bounds_u64 w0
  clear w0
  obtain ⟨b1, c1⟩ := bounds_u64 w1
  clear w1
  have hz : appV 18 0 9223372036854775808 = 1 := by decide +kernel
  obtain ⟨p, q, r, s, e1, e2, e3, e4, s1, s2⟩ := sum_s a0 a1 b0 c0 b1 c1
  obtain ⟨p', q', r', s', e1', e2', e3', _, s1', _⟩ := sum_u a0 a1
  obtain rfl : r' = r := e3'.symm.trans e3
  clear e3'
  obtain ⟨f, g, h, e5, e6, e7, s5⟩ := sum_f a0 a1 b0 c0 b1 c1
  obtain ⟨t1, t2, t3, t4, t5, t6, t7, t8, t9⟩ : Bit p ∧ Bit q ∧ Bit r' ∧ Bit s ∧ Bit p' ∧ Bit q' ∧ Bit f ∧ Bit g ∧ Bit h := by
    rw [← e1, ← e2, ← e3, ← e4, ← e1', ← e2', ← e5, ← e6, ← e7]
    exact ⟨bit_tr _, bit_tr _, bit_tr _, bit_tr _, bit_tr _, bit_tr _, bit_tr _, bit_tr _, bit_tr _⟩
  have S5 := Lib.hid s5
  clear s5
  go_enter Tryd.func9, Tryd.ntmps9
  go_wp2
  go_loopw [5] (fun i wr => ∃ k : Nat, k ≤ 2 ∧ i = .int .i64 k ∧ Drawn w wr) (fun i _ => 2 - (intOf i).toNat)
  case atStart => exact ⟨0, by omega, rfl, Drawn.refl w⟩
  case round =>
    obtain ⟨k, hk, rfl, n, rfl⟩ := hrel
    have hc : k = 0 ∨ k = 1 ∨ k = 2 := by omega
    rcases hc with rfl | rfl | rfl
    · clear S5 e1' e2' s1' e5 e6 e7
      rcases t1 with rfl | rfl <;> rcases t2 with rfl | rfl <;> rcases t3 with rfl | rfl <;> rcases t4 with rfl | rfl <;> (first | (exfalso; omega) | skip)
      all_goals
        go_wp2_with (first | (go_at_call 18; refine (l_at _ _ _ ⟨by omega, by omega⟩ ⟨by omega, by omega⟩ _).mono ?_; rintro e w1 ⟨rfl, _, rfl⟩))
        go_roundw
        case rel => exact ⟨1, by omega, rfl, _, rfl⟩
        case measure => simp [intOf]
    · clear S5 e1 e2 s1 e5 e6 e7
      rcases t5 with rfl | rfl <;> rcases t6 with rfl | rfl <;> rcases t3 with rfl | rfl <;> rcases t4 with rfl | rfl <;> (first | (exfalso; omega) | skip)
      all_goals
        go_wp2_with (first | (go_at_call 18; refine (l_at _ _ _ ⟨by omega, by omega⟩ ⟨by omega, by omega⟩ _).mono ?_; rintro e w1 ⟨rfl, _, rfl⟩))
        go_roundw
        case rel => exact ⟨2, by omega, rfl, _, rfl⟩
        case measure => simp [intOf]
    · clear e1 e2 e3 e4 s1 s2 e1' e2' s1'
      have s5 := S5.out
      clear S5
      cases n0 : nanI a0
      · cases n1 : nanI a1
        · rw [n0, n1] at s5
          simp only [Bool.false_eq_true, _root_.or_self, if_false] at s5
          rcases t7 with rfl | rfl <;> rcases t8 with rfl | rfl <;> rcases t9 with rfl | rfl <;> (first | (exfalso; omega) | skip)
          all_goals
            clear s5
            go_wp2_with (first | (go_at_call 18; refine (l_at _ _ _ ⟨by omega, by omega⟩ ⟨by omega, by omega⟩ _).mono ?_; rintro e w1 ⟨rfl, _, rfl⟩) | (go_at_call 19; (with_reducible refine (l_nan _ _ n0 (by omega) (by omega) _).mono ?_); rintro e w1 ⟨rfl, rfl⟩) | (go_at_call 19; (with_reducible refine (l_nan _ _ n1 (by omega) (by omega) _).mono ?_); rintro e w1 ⟨rfl, rfl⟩) | (go_at_call 13; refine (AluL.awake _ (HT.drewN _)).mono ?_; rintro e w1 ⟨rfl, _, rfl⟩))
            go_ret
            exact ⟨rfl, rfl, rfl, Nat.le_refl _, fun _ _ => rfl⟩
        · rw [n0, n1] at s5
          simp only [Bool.false_eq_true, false_or, if_true] at s5
          rcases t7 with rfl | rfl <;> rcases t8 with rfl | rfl <;> rcases t9 with rfl | rfl <;> (first | (exfalso; omega) | skip)
          all_goals
            clear s5
            go_wp2_with (first | (go_at_call 18; refine (l_at _ _ _ ⟨by omega, by omega⟩ ⟨by omega, by omega⟩ _).mono ?_; rintro e w1 ⟨rfl, _, rfl⟩) | (go_at_call 19; (with_reducible refine (l_nan _ _ n0 (by omega) (by omega) _).mono ?_); rintro e w1 ⟨rfl, rfl⟩) | (go_at_call 19; (with_reducible refine (l_nan _ _ n1 (by omega) (by omega) _).mono ?_); rintro e w1 ⟨rfl, rfl⟩) | (go_at_call 13; refine (AluL.awake _ (HT.drewN _)).mono ?_; rintro e w1 ⟨rfl, _, rfl⟩))
            go_ret
            exact ⟨rfl, rfl, rfl, Nat.le_refl _, fun _ _ => rfl⟩
      · rw [n0] at s5
        simp only [true_or, if_true] at s5
        rcases t7 with rfl | rfl <;> rcases t8 with rfl | rfl <;> rcases t9 with rfl | rfl <;> (first | (exfalso; omega) | skip)
        all_goals
          clear s5
          go_wp2_with (first | (go_at_call 18; refine (l_at _ _ _ ⟨by omega, by omega⟩ ⟨by omega, by omega⟩ _).mono ?_; rintro e w1 ⟨rfl, _, rfl⟩) | (go_at_call 19; (with_reducible refine (l_nan _ _ n0 (by omega) (by omega) _).mono ?_); rintro e w1 ⟨rfl, rfl⟩) | (go_at_call 13; refine (AluL.awake _ (HT.drewN _)).mono ?_; rintro e w1 ⟨rfl, _, rfl⟩))
          go_ret
          exact ⟨rfl, rfl, rfl, Nat.le_refl _, fun _ _ => rfl⟩

/-! The heap that the program's own initialisers leave meets the row's condition. -/
theorem door_met (os : Os) (args : Array Value) : laidMetH Tryd.prog [("strongtx/alu.names", Rows.laid_strongtx_alu_names)] ((World.doorLaid Tryd.prog 400 os).forCall (fun _ _ => 0) ⟨#[], args, []⟩).memory :=
  laidMetH_of_parts3 (fuel := 8) (laidMet_of_run' 8 (by kernel_rfl) (by kernel_rfl)) (by kernel_rfl) (by kernel_rfl)

/-! The row's step. -/
set_option maxRecDepth 100000 in
theorem lifted (os : Os) (started : os.Started) (H : Type) (enc : TypeId × Value → H) :
    ReturnsInHanded {} Tryd.checked os 9 .any (fun w args => (Rows.aluComparesSpec.pre enc Tryd.prog Tryd.f9 Rows.aluComparesRow.domain false w args ∧ laidMetH Tryd.prog [("strongtx/alu.names", Rows.laid_strongtx_alu_names)] w) ∧ sizedMet enc Tryd.prog Tryd.f9 (OpenSpec.ofChange Rows.aluComparesSpec) false w args)
      (Rows.aluComparesSpec.post enc Tryd.prog Tryd.f9 false true false false) := by
  refine returnsInHanded_of_change_and (C := Tryd.checked) (X := fun w _ => laidMetH Tryd.prog [("strongtx/alu.names", Rows.laid_strongtx_alu_names)] w) (fun _ _ _ hh h => h.of_heap hh) own started (by kernel_rfl) Tryd.func9
    (ChangeSpec.witness_shaped (enc := enc) (C := Tryd.checked) (os := os) (X := fun w _ => laidMetH Tryd.prog [("strongtx/alu.names", Rows.laid_strongtx_alu_names)] w) false (World.doorLaid Tryd.prog 400 os) #[.int .u64 0, .int .u64 0] 8 rfl (World.shaped_of_RefB (by kernel_rfl) (by kernel_rfl)) (by kernel_rfl) (by kernel_rfl) (by kernel_rfl) (door_met os _)) ?_
  intro W base args ds gs before hval0 hW hcnd _ hL _
  have hval : ∀ (j : Nat) t v, Tryd.f9.params[j]? = some t → args[j]? = some v → Value.okWide Tryd.prog W .any base t v := hval0
  have hW' := hW
  obtain ⟨p, q, hA0, hV, rfl, hfz, hnd⟩ := hW
  have hA : DataW.TrodAll enc Tryd.prog W 0 (fun _ => true) true Tryd.f9.params.toList args.toList ds p := hA0
  rw [Tryd.params9] at hA hval
  obtain ⟨v0, vs0, d0, ds0, p0, q0, hargs, rfl, rfl, h0, r0⟩ := trodAll_cons hA
  obtain ⟨v1, vs1, d1, ds1, p1, q1, rfl, rfl, rfl, h1, r1⟩ := trodAll_cons r0
  obtain ⟨rfl, rfl, rfl⟩ := trodAll_nil r1
  obtain rfl : args = #[v0, v1] := by cases args; simp_all
  obtain ⟨rfl, rfl⟩ := trodVars_none hV
  have hk : ∀ W', Kept W W' → Rows.aluComparesSpec.post enc Tryd.prog Tryd.f9 false true false false W #[v0, v1] (.bool true) W' := fun W' hb =>
    post_law laidOut readable rfl Tryd.underlying4 rfl hW' rfl hb
  clear hA0 hval0 hA hW'
  obtain ⟨a0, rfl, rfl, rfl, w0⟩ := open_int Tryd.underlying22 (hval 0 22 v0 rfl rfl) h0
  obtain ⟨a1, rfl, rfl, rfl, w1⟩ := open_int Tryd.underlying22 (hval 1 22 v1 rfl rfl) h1
  refine (walk W hL a0 w0 a1 w1).mono fun e W' ⟨he, hg⟩ => ?_
  subst he
  exact ⟨_, rfl, hk W' hg⟩

theorem over : Rows.aluComparesRow.holds Tryd.pinned (OpenSpec.ofChange Rows.aluComparesSpec) :=
  OpenClaim.holds_of_wide 9 Tryd.f9 rfl rfl rfl rfl rfl rfl rfl ⟨rfl, rfl, rfl, rfl, rfl⟩ rfl rfl rfl rfl rfl (by kernel_rfl) Tryd.func9 (by kernel_rfl)
    (of_decide_eq_true (by kernel_rfl)) (by unfold Func.isWrapper; first | (rw [if_pos (by decide +kernel)]; kernel_rfl) | (rw [if_neg (by decide +kernel)]; exact ⟨rfl, rfl⟩))
    (fun os started H enc _ => lifted os started H enc)

/-- The row. -/
theorem row : Rows.AluComparesSaid :=
  over

/-- The statement: the tied card. -/
theorem proved : Rows.AluComparesCardSaid :=
  Claim7.holds_tied_plain_at .later [] [.data] true (true, "013be51ec50ab88fb12a8451b9e12f0b5bcd91880598b22d630ea24a65be99af") false
    row (fun _ h => by cases h) (by kernel_rfl) (fun _ h => by cases h) aluCompares_row_tie rfl ⟨rfl, rfl⟩ (by kernel_rfl) rfl
    (fun f fn hf hfn => by
      obtain rfl : f = 9 := Option.some.inj ((show Tryd.prog.funcNamed "strongtx/strongtxlaw02.AluCompares" = some 9 by kernel_rfl).symm.trans hf) |>.symm
      obtain rfl : fn = Tryd.f9 := (Option.some.inj (Tryd.func9.symm.trans hfn)).symm
      exact ⟨by kernel_rfl, fun j t ht => by
        rw [Tryd.params9] at ht
        have hm : t ∈ [22, 22] := by simpa using Array.mem_of_getElem? ht
        have hall : ([22, 22].all fun u => !Tryd.prog.wantsStandIn u) = true := by kernel_rfl
        exact (show Tryd.prog.wantsStandIn t = false by simpa using List.all_eq_true.1 hall t hm)⟩)
    (by kernel_rfl)
#print axioms proved
end Go.Proofs.YtkboeeakilhbhaaDoor.aluCompares
