/-
  Contracts of the functions of the statements of layer 2 that are no statements themselves (awake, at, nan), and facts on the words that Apply gives.
-/
import Derived.Test.YtkboeeakilhbhaaDoorAlu
import Derived.Test.YtkboeeakilhbhaaDoorTab
namespace Go.Proofs.YtkboeeakilhbhaaDoor.AluL
open Go.ChangeShapes Go.WideShapes Go.ChangeAt Go.RowKit
open Flt AluC TabC
set_option linter.unusedVariables false

theorem Drawn.kept {w w' : World} (h : Drawn w w') : LawFrame.Kept w w' := by
  obtain ⟨n, rfl⟩ := h
  exact ⟨rfl, rfl, Nat.le_refl _, fun _ _ => rfl⟩
theorem Drawn.trans {a b c : World} (h : Drawn a b) (k : Drawn b c) : Drawn a c := by
  obtain ⟨n, rfl⟩ := h
  obtain ⟨m, rfl⟩ := k
  exact ⟨n + m, World.drewN_drewN _ _ _⟩
theorem Drawn.tab {w w' : World} (h : Drawn w w') (t : Tab w) : Tab w' := by
  obtain ⟨n, rfl⟩ := h
  exact t

theorem bd_wrap (n : Int) : 0 ≤ IntKind.u64.wrap n ∧ IntKind.u64.wrap n ≤ 18446744073709551615 := bounds_u64 (wf_wrap .u64 n)
theorem bd_bits (op : BinOp) (x y : Int) : 0 ≤ bits op .u64 x y ∧ bits op .u64 x y ≤ 18446744073709551615 := by
  unfold bits
  exact bd_wrap _
theorem bd_tr (b : Bool) : 0 ≤ tr b ∧ tr b ≤ 1 := by cases b <;> decide
theorem bd_fw {op : BinOp} (x y : Nat) : 0 ≤ fw (floatBits op .f64 x y) ∧ fw (floatBits op .f64 x y) ≤ 18446744073709551615 := by
  cases h : floatBits op .f64 x y with
  | none => decide
  | some r =>
    have : r < 18446744073709551616 := of_decide_eq_true (floatBits_wf h)
    unfold fw
    dsimp only
    omega
theorem bd_min (x y : Int) (hx0 : 0 ≤ x) (hx1 : x ≤ 18446744073709551615) (hy0 : 0 ≤ y) (hy1 : y ≤ 18446744073709551615) : 0 ≤ minV x y ∧ minV x y ≤ 18446744073709551615 := by
  unfold minV; split
  · omega
  · split <;> omega
theorem bd_max (x y : Int) (hx0 : 0 ≤ x) (hx1 : x ≤ 18446744073709551615) (hy0 : 0 ≤ y) (hy1 : y ≤ 18446744073709551615) : 0 ≤ maxV x y ∧ maxV x y ≤ 18446744073709551615 := by
  unfold maxV; split
  · omega
  · split <;> omega
theorem bd_to (x : Int) : 0 ≤ toV x ∧ toV x ≤ 18446744073709551615 := by
  unfold toV; split
  · omega
  · split
    · omega
    · split
      · omega
      · exact bd_wrap _
theorem bd_shr (x y : Int) (hx0 : 0 ≤ x) (hx1 : x ≤ 18446744073709551615) : 0 ≤ shrV x y ∧ shrV x y ≤ 18446744073709551615 := by
  unfold shrV
  have hp : (0 : Int) < 2 ^ min (y.tmod 64).toNat 64 := Int.pow_pos (by decide)
  generalize (2 : Int) ^ min (y.tmod 64).toNat 64 = p at hp
  rw [Int.fdiv_eq_ediv_of_nonneg _ (by omega)]
  have h1 := Int.ediv_nonneg hx0 (by omega : 0 ≤ p)
  have h2 := Int.ediv_le_self p hx0
  omega
def W64 (v : Int) : Prop := 0 ≤ v ∧ v ≤ 18446744073709551615
theorem W64.tr (b : Bool) : W64 (tr b) := ⟨(bd_tr b).1, by have := (bd_tr b).2; omega⟩
theorem W64.float (n : Int) : W64 (floatOfInt .f64 n : Nat) := ⟨by omega, by have := floatOfInt_lt n; omega⟩
theorem W64.ite {c : Prop} [Decidable c] {a b : Int} (h : W64 a) (k : W64 b) : W64 (if c then a else b) := by split <;> assumption
theorem W64.zero : W64 0 := ⟨by omega, by omega⟩
theorem bd (fn x y : Int) (hx0 : 0 ≤ x) (hx1 : x ≤ 18446744073709551615) (hy0 : 0 ≤ y) (hy1 : y ≤ 18446744073709551615) : W64 (appV fn x y) := by
  unfold appV
  repeat' refine W64.ite ?_ ?_
  all_goals first
    | exact bd_wrap _ | exact bd_bits _ _ _ | exact bd_fw _ _ | exact bd_min x y hx0 hx1 hy0 hy1 | exact bd_max x y hx0 hx1 hy0 hy1 | exact bd_to x | exact bd_shr x y hx0 hx1 | exact W64.tr _ | exact W64.float _ | (unfold W64; omega)

theorem one_one : appV 12 4607182418800017408 4607182418800017408 = 4611686018427387904 := by decide +kernel
theorem min_zero : appV 10 9223372036854775808 0 = 1 := by decide +kernel
theorem a_name16 (w : World) (h : Tab w) : Calls Tryd.prog 16 #[.int .i64 16] w fun e w' => e = .returned (.string ⟨#[102, 109, 105, 110]⟩) ∧ w = w' := a_name 16 (by omega) w h

theorem awake (w : World) (h : Tab w) : Calls Tryd.prog 13 #[] w fun e w' => e = .returned (.bool true) ∧ Drawn w w' := by
  have e1 := one_one
  have e2 := min_zero
  have e3 : appE 12 = 0 := rfl
  have e4 : appE 10 = 0 := rfl
  go_enter Tryd.func13, Tryd.ntmps13
  go_wp2_with (first | (go_at_call 11; refine (a_apply _ _ _ (by omega) (by omega) (by omega) (by omega) _).mono ?_; rintro e w1 ⟨rfl, _, rfl⟩) | (go_at_call 16; refine (a_name16 _ (h.drewN _)).mono ?_; rintro e w1 ⟨rfl, rfl⟩))
  go_ret
  exact ⟨rfl, _, rfl⟩
theorem l_at (fn x y : Int) (hx : 0 ≤ x ∧ x ≤ 18446744073709551615) (hy : 0 ≤ y ∧ y ≤ 18446744073709551615) (w : World) :
    Calls Tryd.prog 18 #[.int .i64 fn, .int .u64 x, .int .u64 y] w fun e w' => e = .returned (.int .u64 (appV fn x y)) ∧ Drawn w w' := by
  go_enter Tryd.func18, Tryd.ntmps18
  go_wp2_with (go_at_call 11; refine (a_apply _ _ _ hx.1 hx.2 hy.1 hy.2 _).mono ?_; rintro e w1 ⟨rfl, _, rfl⟩)
  go_ret
  exact ⟨rfl, _, rfl⟩

/-! ### Names. -/
theorem num_ex (s : ByteArray) : ∃ n b, NumIs s n b := by
  by_cases h : Un s 22
  · exact ⟨0, false, .inr ⟨h, rfl, rfl⟩⟩
  · have : ∀ k, Un s k ∨ ∃ j, j < k ∧ nm j = s ∧ Un s j := by
      intro k
      induction k with
      | zero => exact .inl (Un.zero s)
      | succ k ih =>
        rcases ih with ih | ⟨j, hj, e, u⟩
        · by_cases e : nm k = s
          · exact .inr ⟨k, by omega, e, ih⟩
          · exact .inl (ih.next e)
        · exact .inr ⟨j, by omega, e, u⟩
    rcases this 22 with hu | ⟨j, hj, e, u⟩
    · exact absurd hu h
    · exact ⟨_, _, .inl ⟨j, hj, e, rfl, rfl, u⟩⟩
theorem a_num {s : ByteArray} {n : Int} {b : Bool} (hn : NumIs s n b) (w : World) (h : Tab w) : Calls Tryd.prog 14 #[.string s] w fun e w' => e = .returned (.tuple #[.int .i64 n, .bool b]) ∧ w = w' :=
  (a_number s w h).mono fun e w' ⟨⟨m, c, he, hm⟩, hw⟩ => by
    obtain ⟨rfl, rfl⟩ := hn.unique hm
    exact ⟨he, hw⟩
theorem r_num {s : ByteArray} {n : Int} {b : Bool} (hn : NumIs s n b) (w : World) : Calls Tryd.prog 15 #[.string s] w fun e w' => e = .returned (.tuple #[.int .i64 n, .bool b]) ∧ w' = w.alloc (.cells cellA 9) :=
  (r_number s w).mono fun e w' ⟨⟨m, c, he, hm⟩, hw⟩ => by
    obtain ⟨rfl, rfl⟩ := hn.unique hm
    exact ⟨he, hw⟩
theorem num_nm (k : Nat) (hk : k < 22) : NumIs (nm k) k true := by
  obtain ⟨n, b, h⟩ := num_ex (nm k)
  obtain ⟨rfl, rfl⟩ := h.name hk
  exact h
theorem num_empty : NumIs ⟨#[]⟩ 0 false := by
  obtain ⟨n, b, h⟩ := num_ex ⟨#[]⟩
  obtain ⟨rfl, rfl⟩ := h.none
  exact h
end Go.Proofs.YtkboeeakilhbhaaDoor.AluL
