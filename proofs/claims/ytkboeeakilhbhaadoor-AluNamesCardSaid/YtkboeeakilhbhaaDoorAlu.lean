/-
  Contracts of the functions of package alu and of the reference of layer 2: each returns the word that the document gives ('appV'), and changes nothing (a float operation that yields a NaN draws its bits).
-/
import Derived.Test.YtkboeeakilhbhaaDoorFlt
import Derived.Test.YtkboeeakilhbhaaDoorRows
import Derived.WalkKit
import Derived.ProofKit
import Derived.OpenShut
import Derived.WalkLawsBesides
import Derived.Lib.Hide
namespace Go.Proofs.YtkboeeakilhbhaaDoor.AluC
open Go.ChangeShapes Go.WideShapes Go.ChangeAt Go.RowKit
open Flt
set_option linter.unusedVariables false

/-! ### Bits. -/
theorem and_2047 (a : Int) (h0 : 0 ≤ a) (h1 : a ≤ 18446744073709551615) : bits .and .u64 a 2047 = a % 2048 := by
  rw [u64_and a 2047 h0 (by omega) (by omega) (by omega)]
  have : a.toNat &&& (2047 : Int).toNat = a.toNat % 2048 := Nat.and_two_pow_sub_one_eq_mod a.toNat 11
  rw [this]; omega
theorem and_frac (a : Int) (h0 : 0 ≤ a) (h1 : a ≤ 18446744073709551615) : bits .and .u64 a 4503599627370495 = a % 4503599627370496 := by
  rw [u64_and a 4503599627370495 h0 (by omega) (by omega) (by omega)]
  have : a.toNat &&& (4503599627370495 : Int).toNat = a.toNat % 4503599627370496 := Nat.and_two_pow_sub_one_eq_mod a.toNat 52
  rw [this]; omega
theorem nat_and_shift (x m k : Nat) : x &&& (m <<< k) = ((x >>> k) &&& m) <<< k := by
  apply Nat.eq_of_testBit_eq
  intro i
  simp only [Nat.testBit_and, Nat.testBit_shiftLeft, Nat.testBit_shiftRight]
  by_cases h : k ≤ i
  · have : k + (i - k) = i := by omega
    simp [h, this]
  · simp [h]
theorem and_expo (a : Int) (h0 : 0 ≤ a) (h1 : a ≤ 18446744073709551615) : bits .and .u64 a 9218868437227405312 = a / 4503599627370496 % 2048 * 4503599627370496 := by
  rw [u64_and a 9218868437227405312 h0 (by omega) (by omega) (by omega)]
  have e : (9218868437227405312 : Int).toNat = 2047 <<< 52 := by decide
  rw [e, nat_and_shift, Nat.shiftRight_eq_div_pow, Nat.shiftLeft_eq]
  have : a.toNat / 2 ^ 52 &&& 2047 = a.toNat / 2 ^ 52 % 2048 := Nat.and_two_pow_sub_one_eq_mod _ 11
  rw [this]; omega
theorem or_self (a : Int) (h0 : 0 ≤ a) (h1 : a ≤ 18446744073709551615) : bits .or .u64 a a = a := by
  rw [u64_or a a h0 (by omega) h0 (by omega), Nat.or_self]; omega
theorem and_self (a : Int) (h0 : 0 ≤ a) (h1 : a ≤ 18446744073709551615) : bits .and .u64 a a = a := by
  rw [u64_and a a h0 (by omega) h0 (by omega), Nat.and_self]; omega
theorem xor_xor (x y : Int) (hx0 : 0 ≤ x) (hx1 : x ≤ 18446744073709551615) (hy0 : 0 ≤ y) (hy1 : y ≤ 18446744073709551615) : bits .xor .u64 (bits .xor .u64 x y) y = x := by
  obtain ⟨X, rfl⟩ := Int.eq_ofNat_of_zero_le hx0
  obtain ⟨Y, rfl⟩ := Int.eq_ofNat_of_zero_le hy0
  have h : X ^^^ Y < 2 ^ 64 := Nat.xor_lt_two_pow (by omega) (by omega)
  rw [bits_xor_u64_nat X Y (by omega) (by omega), bits_xor_u64_nat _ Y (by omega) (by omega), Nat.xor_assoc, Nat.xor_self, Nat.xor_zero]
theorem xor_xor' (x y : Int) (hx0 : 0 ≤ x) (hx1 : x ≤ 18446744073709551615) (hy0 : 0 ≤ y) (hy1 : y ≤ 18446744073709551615) : bits .xor .u64 (bits .xor .u64 x y) x = y := by
  obtain ⟨X, rfl⟩ := Int.eq_ofNat_of_zero_le hx0
  obtain ⟨Y, rfl⟩ := Int.eq_ofNat_of_zero_le hy0
  have h : X ^^^ Y < 2 ^ 64 := Nat.xor_lt_two_pow (by omega) (by omega)
  rw [bits_xor_u64_nat X Y (by omega) (by omega), bits_xor_u64_nat _ X (by omega) (by omega), Nat.xor_comm X Y, Nat.xor_assoc, Nat.xor_self, Nat.xor_zero]

/-! ### Words as numbers. -/
/-- The word is a NaN. -/
def nanI (x : Int) : Bool := nan x.toNat
def keyI (x : Int) : Int := if 9223372036854775808 ≤ x then 9223372036854775808 - x else x
theorem key_eq (x : Int) (h0 : 0 ≤ x) (h1 : x ≤ 18446744073709551615) : key x.toNat = keyI x := by
  unfold key keyI
  split <;> split <;> omega
theorem nan_iff (x : Int) (h0 : 0 ≤ x) (h1 : x ≤ 18446744073709551615) : nanI x = true ↔ x / 4503599627370496 % 2048 = 2047 ∧ x % 4503599627370496 ≠ 0 := by
  unfold nanI nan
  rw [decide_eq_true_eq]
  omega
inductive Ord (x y : Int) : Prop where
  | none (h : nanI x = true ∨ nanI y = true) (e : FloatKind.f64.format.order x.toNat y.toNat = none)
  | lt (nx : nanI x = false) (ny : nanI y = false) (h : keyI x < keyI y) (e : FloatKind.f64.format.order x.toNat y.toNat = some .lt)
  | eq (nx : nanI x = false) (ny : nanI y = false) (h : keyI x = keyI y) (e : FloatKind.f64.format.order x.toNat y.toNat = some .eq)
  | gt (nx : nanI x = false) (ny : nanI y = false) (h : keyI y < keyI x) (e : FloatKind.f64.format.order x.toNat y.toNat = some .gt)
theorem ord (x y : Int) (hx0 : 0 ≤ x) (hx1 : x ≤ 18446744073709551615) (hy0 : 0 ≤ y) (hy1 : y ≤ 18446744073709551615) : Ord x y := by
  have f : FloatKind.f64.format = Ieee.double := rfl
  cases nx : nanI x
  · cases ny : nanI y
    · have := order_key x.toNat y.toNat (by omega) (by omega) nx ny
      rw [key_eq x hx0 hx1, key_eq y hy0 hy1] at this
      rcases Int.lt_trichotomy (keyI x) (keyI y) with h | h | h
      · rw [Std.compare_eq_lt.2 h] at this
        exact .lt nx ny h (by rw [f]; exact this)
      · rw [h] at this
        exact .eq nx ny h (by rw [f, this]; simp)
      · rw [Std.compare_eq_gt.2 h] at this
        exact .gt nx ny h (by rw [f]; exact this)
    · exact .none (.inr ny) (by rw [f]; exact order_nan_right _ _ ny)
  · exact .none (.inl nx) (by rw [f]; exact order_nan_left _ _ nx)
theorem key_inj (x y : Int) (hx0 : 0 ≤ x) (hx1 : x ≤ 18446744073709551615) (hy0 : 0 ≤ y) (hy1 : y ≤ 18446744073709551615) (h : keyI x = keyI y) :
    x = y ∨ (x = 0 ∧ y = 9223372036854775808) ∨ (x = 9223372036854775808 ∧ y = 0) := by
  unfold keyI at h
  split at h <;> split at h <;> omega

/-- The word of a float operation's result. -/
def fw : Option Nat → Int
  | some r => r
  | none => 9221120237041090560
def tr (b : Bool) : Int := if b = true then 1 else 0
/-- x is the lesser of two numbers, -0 less than +0. -/
def first (x y : Int) : Bool := decide (keyI x < keyI y ∨ (keyI x = keyI y ∧ 9223372036854775808 ≤ x))
def minV (x y : Int) : Int := if nanI x = true ∨ nanI y = true then 9221120237041090560 else if first x y = true then x else y
def maxV (x y : Int) : Int := if nanI x = true ∨ nanI y = true then 9221120237041090560 else if first x y = true then y else x
/-- The float without its fraction, as a signed integer. -/
def whole (x : Int) : Int := ((Ieee.double.read x.toNat).toInt .zero).getD 0
def toV (x : Int) : Int := if nanI x = true then 0 else if 4890909195324358656 ≤ keyI x then 9223372036854775807 else if keyI x < -4890909195324358656 then 9223372036854775808 else IntKind.u64.wrap (whole x)
def eqV (x y : Int) : Bool := !(nanI x || nanI y) && decide (keyI x = keyI y)
def ltV (x y : Int) : Bool := !(nanI x || nanI y) && decide (keyI x < keyI y)
def shlV (x y : Int) : Int := IntKind.u64.wrap (x * 2 ^ min (y.tmod 64).toNat 64)
def shrV (x y : Int) : Int := x.fdiv (2 ^ min (y.tmod 64).toNat 64)
/-- The word that the document gives. -/
def appV (fn x y : Int) : Int :=
  if fn = 0 then IntKind.u64.wrap (x + y) else if fn = 1 then IntKind.u64.wrap (x - y) else if fn = 2 then IntKind.u64.wrap (x * y)
  else if fn = 3 then bits .and .u64 x y else if fn = 4 then bits .or .u64 x y else if fn = 5 then bits .xor .u64 x y
  else if fn = 6 then shlV x y else if fn = 7 then shrV x y
  else if fn = 8 then tr (x == y) else if fn = 9 then tr (x != y)
  else if fn = 10 then tr (decide (wrap64 x < wrap64 y)) else if fn = 11 then tr (decide (x < y))
  else if fn = 12 then fw (floatBits .add .f64 x.toNat y.toNat) else if fn = 13 then fw (floatBits .sub .f64 x.toNat y.toNat)
  else if fn = 14 then fw (floatBits .mul .f64 x.toNat y.toNat) else if fn = 15 then fw (floatBits .quo .f64 x.toNat y.toNat)
  else if fn = 16 then minV x y else if fn = 17 then maxV x y
  else if fn = 18 then tr (eqV x y) else if fn = 19 then tr (ltV x y)
  else if fn = 20 then (floatOfInt .f64 (wrap64 x) : Nat) else if fn = 21 then toV x else 0
def appE (fn : Int) : Int := if 0 ≤ fn ∧ fn < 22 then 0 else 10

theorem minV_or (x y : Int) (hx0 : 0 ≤ x) (hx1 : x ≤ 18446744073709551615) (hy0 : 0 ≤ y) (hy1 : y ≤ 18446744073709551615) (nx : nanI x = false) (ny : nanI y = false) (h : keyI x = keyI y) : bits .or .u64 x y = minV x y := by
  have hn : ¬ (nanI x = true ∨ nanI y = true) := by rw [nx, ny]; simp
  unfold minV first
  rw [if_neg hn]
  rcases key_inj x y hx0 hx1 hy0 hy1 h with rfl | ⟨rfl, rfl⟩ | ⟨rfl, rfl⟩
  · rw [or_self x hx0 hx1]; split <;> rfl
  · decide +kernel
  · decide +kernel
theorem maxV_and (x y : Int) (hx0 : 0 ≤ x) (hx1 : x ≤ 18446744073709551615) (hy0 : 0 ≤ y) (hy1 : y ≤ 18446744073709551615) (nx : nanI x = false) (ny : nanI y = false) (h : keyI x = keyI y) : bits .and .u64 x y = maxV x y := by
  have hn : ¬ (nanI x = true ∨ nanI y = true) := by rw [nx, ny]; simp
  unfold maxV first
  rw [if_neg hn]
  rcases key_inj x y hx0 hx1 hy0 hy1 h with rfl | ⟨rfl, rfl⟩ | ⟨rfl, rfl⟩
  · rw [and_self x hx0 hx1]; split <;> rfl
  · decide +kernel
  · decide +kernel
theorem minV_nan (x y : Int) (h : nanI x = true ∨ nanI y = true) : minV x y = 9221120237041090560 := by unfold minV; rw [if_pos h]
theorem maxV_nan (x y : Int) (h : nanI x = true ∨ nanI y = true) : maxV x y = 9221120237041090560 := by unfold maxV; rw [if_pos h]
theorem minV_first (x y : Int) (nx : nanI x = false) (ny : nanI y = false) (h : first x y = true) : minV x y = x := by
  unfold minV; rw [if_neg (by rw [nx, ny]; simp), if_pos h]
theorem minV_second (x y : Int) (nx : nanI x = false) (ny : nanI y = false) (h : first x y = false) : minV x y = y := by
  unfold minV; rw [if_neg (by rw [nx, ny]; simp), if_neg (by rw [h]; simp)]
theorem maxV_first (x y : Int) (nx : nanI x = false) (ny : nanI y = false) (h : first x y = true) : maxV x y = y := by
  unfold maxV; rw [if_neg (by rw [nx, ny]; simp), if_pos h]
theorem maxV_second (x y : Int) (nx : nanI x = false) (ny : nanI y = false) (h : first x y = false) : maxV x y = x := by
  unfold maxV; rw [if_neg (by rw [nx, ny]; simp), if_neg (by rw [h]; simp)]
theorem first_lt (x y : Int) (h : keyI x < keyI y) : first x y = true := decide_eq_true (.inl h)
theorem first_gt (x y : Int) (h : keyI y < keyI x) : first x y = false := decide_eq_false (by omega)
theorem first_eq (x y : Int) (h : keyI x = keyI y) (hx : 9223372036854775808 ≤ x) : first x y = true := decide_eq_true (.inr ⟨h, hx⟩)
theorem first_eq' (x y : Int) (h : keyI x = keyI y) (hx : ¬ 9223372036854775808 ≤ x) : first x y = false := decide_eq_false (by omega)
theorem eqV_nan (x y : Int) (h : nanI x = true ∨ nanI y = true) : eqV x y = false := by unfold eqV; rcases h with h | h <;> simp [h]
theorem ltV_nan (x y : Int) (h : nanI x = true ∨ nanI y = true) : ltV x y = false := by unfold ltV; rcases h with h | h <;> simp [h]
theorem eqV_num (x y : Int) (nx : nanI x = false) (ny : nanI y = false) : eqV x y = decide (keyI x = keyI y) := by unfold eqV; simp [nx, ny]
theorem ltV_num (x y : Int) (nx : nanI x = false) (ny : nanI y = false) : ltV x y = decide (keyI x < keyI y) := by unfold ltV; simp [nx, ny]

/-! ### Results and pairs. -/
theorem ret_u {a b : Int} (h : a = b) : Ending.returned (.int .u64 a) = .returned (.int .u64 b) := by rw [h]
theorem ret_b {a b : Bool} (h : a = b) : Ending.returned (.bool a) = .returned (.bool b) := by rw [h]
theorem ret_p {a b c d : Int} (h : a = b) (k : c = d) : Ending.returned (.tuple #[.int .u64 a, .int .i64 c]) = .returned (.tuple #[.int .u64 b, .int .i64 d]) := by rw [h, k]

/-! ### The small functions. -/
theorem x_from (x : Int) (w : World) : (callFunc 26 #[.int .u64 x]).run Tryd.prog w = .ok (.value (.float .f64 x.toNat)) w := by
  rw [run_callFunc_extern Tryd.func26 (by kernel_rfl) (by kernel_rfl) (by kernel_rfl) (e := Extern.MathFloatBits.float64frombits) (by kernel_rfl)]
  rfl
theorem x_bits (b : Nat) (w : World) : (callFunc 31 #[.float .f64 b]).run Tryd.prog w = .ok (.value (.int .u64 b)) w := by
  rw [run_callFunc_extern Tryd.func31 (by kernel_rfl) (by kernel_rfl) (by kernel_rfl) (e := Extern.MathFloatBits.float64bits) (by kernel_rfl)]
  rfl
theorem order_self (b : Nat) (hb : b < 18446744073709551616) (n : nan b = false) : FloatKind.f64.format.order b b = some .eq := by
  have := order_key b b hb hb n n
  have f : FloatKind.f64.format = Ieee.double := rfl
  rw [f, this]; simp
theorem order_self_nan (b : Nat) (n : nan b = true) : FloatKind.f64.format.order b b = none := order_nan_left _ _ n
theorem a_float (x : Int) (w : World) : Calls Tryd.prog 22 #[.int .u64 x] w fun e w' => e = .returned (.float .f64 x.toNat) ∧ w = w' := by
  go_enter Tryd.func22, Tryd.ntmps22
  go_wp2_with (simp only [x_from])
  go_ret
  exact ⟨rfl, rfl⟩
theorem a_isnan (b : Nat) (v : Bool) (hb : b < 18446744073709551616) (n : nan b = v) (w : World) : Calls Tryd.prog 34 #[.float .f64 b] w fun e w' => e = .returned (.bool v) ∧ w = w' := by
  cases v
  · have h := order_self b hb n
    go_enter Tryd.func34, Tryd.ntmps34
    go_wp2
    go_ret
    exact ⟨rfl, rfl⟩
  · have h := order_self_nan b n
    go_enter Tryd.func34, Tryd.ntmps34
    go_wp2
    go_ret
    exact ⟨rfl, rfl⟩
theorem a_truth (b : Bool) (w : World) : Calls Tryd.prog 20 #[.bool b] w fun e w' => e = .returned (.int .u64 (tr b)) ∧ w = w' := by
  cases b
  all_goals
    go_enter Tryd.func20, Tryd.ntmps20
    go_wp2
    go_ret
    exact ⟨rfl, rfl⟩
theorem r_truth (b : Bool) (w : World) : Calls Tryd.prog 27 #[.bool b] w fun e w' => e = .returned (.int .u64 (tr b)) ∧ w = w' := by
  cases b
  all_goals
    go_enter Tryd.func27, Tryd.ntmps27
    go_wp2
    go_ret
    exact ⟨rfl, rfl⟩
theorem a_word_nan (b : Nat) (hb : b < 18446744073709551616) (n : nan b = true) (w : World) : Calls Tryd.prog 21 #[.float .f64 b] w fun e w' => e = .returned (.int .u64 9221120237041090560) ∧ w = w' := by
  go_enter Tryd.func21, Tryd.ntmps21
  go_wp2_with (go_at_call 34; refine (a_isnan _ _ hb n _).mono ?_; rintro e w1 ⟨rfl, rfl⟩)
  go_ret
  exact ⟨rfl, rfl⟩
theorem a_word_num (b : Nat) (hb : b < 18446744073709551616) (n : nan b = false) (w : World) : Calls Tryd.prog 21 #[.float .f64 b] w fun e w' => e = .returned (.int .u64 b) ∧ w = w' := by
  go_enter Tryd.func21, Tryd.ntmps21
  go_wp2_with (first | (go_at_call 34; refine (a_isnan _ _ hb n _).mono ?_; rintro e w1 ⟨rfl, rfl⟩) | simp only [x_bits])
  go_ret
  exact ⟨rfl, rfl⟩
theorem r_nan (x : Int) (v : Bool) (n : nanI x = v) (h0 : 0 ≤ x) (h1 : x ≤ 18446744073709551615) (w : World) : Calls Tryd.prog 29 #[.int .u64 x] w fun e w' => e = .returned (.bool v) ∧ w = w' := by
  subst n
  have hn := nan_iff x h0 h1
  rw [← and_frac x h0 h1] at hn
  by_cases ht : bits .and .u64 (x / 4503599627370496) 2047 = 2047
  · have he : x / 4503599627370496 % 2048 = 2047 := by rw [and_2047 (x / 4503599627370496) (by omega) (by omega)] at ht; omega
    have hq : (bits .and .u64 x 4503599627370495 != 0) = nanI x := by rw [Bool.eq_iff_iff, hn]; simp [he]
    clear hn he
    go_enter Tryd.func29, Tryd.ntmps29
    go_wp2
    go_ret
    exact ⟨rfl, rfl⟩
  · have hq : nanI x = false := by
      rw [Bool.eq_false_iff, ne_eq, hn]
      intro he
      rw [and_2047 (x / 4503599627370496) (by omega) (by omega)] at ht
      omega
    clear hn
    go_enter Tryd.func29, Tryd.ntmps29
    go_wp2
    go_ret
    exact ⟨ret_b hq.symm, rfl⟩
theorem l_nan (x : Int) (v : Bool) (n : nanI x = v) (h0 : 0 ≤ x) (h1 : x ≤ 18446744073709551615) (w : World) : Calls Tryd.prog 19 #[.int .u64 x] w fun e w' => e = .returned (.bool v) ∧ w = w' := by
  subst n
  have hn := nan_iff x h0 h1
  rw [← and_frac x h0 h1] at hn
  by_cases ht : bits .and .u64 x 9218868437227405312 = 9218868437227405312
  · have he : x / 4503599627370496 % 2048 = 2047 := by rw [and_expo x h0 h1] at ht; omega
    have hq : (bits .and .u64 x 4503599627370495 != 0) = nanI x := by rw [Bool.eq_iff_iff, hn]; simp [he]
    clear hn he
    go_enter Tryd.func19, Tryd.ntmps19
    go_wp2
    go_ret
    exact ⟨rfl, rfl⟩
  · have hq : nanI x = false := by
      rw [Bool.eq_false_iff, ne_eq, hn]
      intro he
      rw [and_expo x h0 h1] at ht
      omega
    clear hn
    go_enter Tryd.func19, Tryd.ntmps19
    go_wp2
    go_ret
    exact ⟨ret_b hq.symm, rfl⟩
theorem r_number_nan (b : Nat) (hb : b < 18446744073709551616) (n : nan b = true) (w : World) : Calls Tryd.prog 28 #[.float .f64 b] w fun e w' => e = .returned (.int .u64 9221120237041090560) ∧ w = w' := by
  have hi : nanI (b : Int) = true := by unfold nanI; rw [Int.toNat_natCast]; exact n
  clear n
  go_enter Tryd.func28, Tryd.ntmps28
  go_wp2_with (first | (go_at_call 29; refine (r_nan _ _ hi (by omega) (by omega) _).mono ?_; rintro e w1 ⟨rfl, rfl⟩) | simp only [x_bits])
  go_ret
  exact ⟨rfl, rfl⟩
theorem r_number_num (b : Nat) (hb : b < 18446744073709551616) (n : nan b = false) (w : World) : Calls Tryd.prog 28 #[.float .f64 b] w fun e w' => e = .returned (.int .u64 b) ∧ w = w' := by
  have hi : nanI (b : Int) = false := by unfold nanI; rw [Int.toNat_natCast]; exact n
  clear n
  go_enter Tryd.func28, Tryd.ntmps28
  go_wp2_with (first | (go_at_call 29; refine (r_nan _ _ hi (by omega) (by omega) _).mono ?_; rintro e w1 ⟨rfl, rfl⟩) | simp only [x_bits])
  go_ret
  exact ⟨rfl, rfl⟩
theorem a_lesser (x y : Int) (hx0 : 0 ≤ x) (hx1 : x ≤ 18446744073709551615) (hy0 : 0 ≤ y) (hy1 : y ≤ 18446744073709551615) (w : World) : Calls Tryd.prog 23 #[.int .u64 x, .int .u64 y] w fun e w' => e = .returned (.int .u64 (minV x y)) ∧ w = w' := by
  cases ord x y hx0 hx1 hy0 hy1 with
  | none h e =>
    go_enter Tryd.func23, Tryd.ntmps23
    go_wp2_with (go_at_call 22; refine (a_float _ _).mono ?_; rintro e w1 ⟨rfl, rfl⟩)
    go_ret
    exact ⟨ret_u (minV_nan x y h).symm, rfl⟩
  | lt nx ny h e =>
    go_enter Tryd.func23, Tryd.ntmps23
    go_wp2_with (go_at_call 22; refine (a_float _ _).mono ?_; rintro e w1 ⟨rfl, rfl⟩)
    go_ret
    exact ⟨ret_u (minV_first x y nx ny (first_lt x y h)).symm, rfl⟩
  | eq nx ny h e =>
    have hv := minV_or x y hx0 hx1 hy0 hy1 nx ny h
    clear h
    go_enter Tryd.func23, Tryd.ntmps23
    go_wp2_with (go_at_call 22; refine (a_float _ _).mono ?_; rintro e w1 ⟨rfl, rfl⟩)
    go_ret
    exact ⟨rfl, rfl⟩
  | gt nx ny h e =>
    go_enter Tryd.func23, Tryd.ntmps23
    go_wp2_with (go_at_call 22; refine (a_float _ _).mono ?_; rintro e w1 ⟨rfl, rfl⟩)
    go_ret
    exact ⟨ret_u (minV_second x y nx ny (first_gt x y h)).symm, rfl⟩
theorem a_greater (x y : Int) (hx0 : 0 ≤ x) (hx1 : x ≤ 18446744073709551615) (hy0 : 0 ≤ y) (hy1 : y ≤ 18446744073709551615) (w : World) : Calls Tryd.prog 24 #[.int .u64 x, .int .u64 y] w fun e w' => e = .returned (.int .u64 (maxV x y)) ∧ w = w' := by
  cases ord x y hx0 hx1 hy0 hy1 with
  | none h e =>
    go_enter Tryd.func24, Tryd.ntmps24
    go_wp2_with (go_at_call 22; refine (a_float _ _).mono ?_; rintro e w1 ⟨rfl, rfl⟩)
    go_ret
    exact ⟨ret_u (maxV_nan x y h).symm, rfl⟩
  | lt nx ny h e =>
    go_enter Tryd.func24, Tryd.ntmps24
    go_wp2_with (go_at_call 22; refine (a_float _ _).mono ?_; rintro e w1 ⟨rfl, rfl⟩)
    go_ret
    exact ⟨ret_u (maxV_first x y nx ny (first_lt x y h)).symm, rfl⟩
  | eq nx ny h e =>
    have hv := maxV_and x y hx0 hx1 hy0 hy1 nx ny h
    clear h
    go_enter Tryd.func24, Tryd.ntmps24
    go_wp2_with (go_at_call 22; refine (a_float _ _).mono ?_; rintro e w1 ⟨rfl, rfl⟩)
    go_ret
    exact ⟨rfl, rfl⟩
  | gt nx ny h e =>
    go_enter Tryd.func24, Tryd.ntmps24
    go_wp2_with (go_at_call 22; refine (a_float _ _).mono ?_; rintro e w1 ⟨rfl, rfl⟩)
    go_ret
    exact ⟨ret_u (maxV_second x y nx ny (first_gt x y h)).symm, rfl⟩
theorem r_least (x y z : Int) (hz : (if first x y = true then x else y) = z) (hx0 : 0 ≤ x) (hx1 : x ≤ 18446744073709551615) (hy0 : 0 ≤ y) (hy1 : y ≤ 18446744073709551615) (nx : nanI x = false) (ny : nanI y = false) (w : World) : Calls Tryd.prog 30 #[.int .u64 x, .int .u64 y] w fun e w' => e = .returned (.int .u64 z) ∧ w = w' := by
  subst hz
  cases ord x y hx0 hx1 hy0 hy1 with
  | none h e => rw [nx, ny] at h; simp at h
  | lt _ _ h e =>
    rw [if_pos (first_lt x y h)]
    clear h
    go_enter Tryd.func30, Tryd.ntmps30
    go_wp2_with (simp only [x_from])
    go_ret
    exact ⟨rfl, rfl⟩
  | eq _ _ h e =>
    by_cases hs : 9223372036854775808 ≤ x
    · rw [if_pos (first_eq x y h hs)]
      have hd : (x / 9223372036854775808 == 1) = true := by rw [beq_iff_eq]; omega
      clear h
      go_enter Tryd.func30, Tryd.ntmps30
      go_wp2_with (simp only [x_from])
      go_ret
      exact ⟨rfl, rfl⟩
    · rw [if_neg (by rw [first_eq' x y h hs]; simp)]
      have hd : (x / 9223372036854775808 == 1) = false := by rw [beq_eq_false_iff_ne]; omega
      clear h
      go_enter Tryd.func30, Tryd.ntmps30
      go_wp2_with (simp only [x_from])
      go_ret
      exact ⟨rfl, rfl⟩
  | gt _ _ h e =>
    rw [if_neg (by rw [first_gt x y h]; simp)]
    clear h
    go_enter Tryd.func30, Tryd.ntmps30
    go_wp2_with (simp only [x_from])
    go_ret
    exact ⟨rfl, rfl⟩

theorem nan_hi : nanI 4890909195324358656 = false := by decide +kernel
theorem nan_lo : nanI 14114281232179134464 = false := by decide +kernel
theorem key_hi : keyI 4890909195324358656 = 4890909195324358656 := by decide +kernel
theorem key_lo : keyI 14114281232179134464 = -4890909195324358656 := by decide +kernel
theorem toV_nan (x : Int) (h : nanI x = true) : toV x = 0 := by unfold toV; rw [if_pos h]
theorem toV_hi (x : Int) (n : nanI x = false) (h : 4890909195324358656 ≤ keyI x) : toV x = 9223372036854775807 := by unfold toV; rw [if_neg (by rw [n]; simp), if_pos h]
theorem toV_lo (x : Int) (n : nanI x = false) (h : keyI x < -4890909195324358656) : toV x = 9223372036854775808 := by unfold toV; rw [if_neg (by rw [n]; simp), if_neg (by omega), if_pos h]
theorem toV_in (x : Int) (n : nanI x = false) (h1 : keyI x < 4890909195324358656) (h2 : -4890909195324358656 ≤ keyI x) : toV x = IntKind.u64.wrap (whole x) := by
  unfold toV; rw [if_neg (by rw [n]; simp), if_neg (by omega), if_neg (by omega)]
theorem whole_in (x : Int) (hx0 : 0 ≤ x) (hx1 : x ≤ 18446744073709551615) (n : nanI x = false) (h1 : keyI x < 4890909195324358656) (h2 : -4890909195324358656 ≤ keyI x) (w : World) :
    (convert 39 2 (.float .f64 x.toNat)).run Tryd.prog w = .ok (.int .i64 (whole x)) w := by
  rw [← key_eq x hx0 hx1] at h1 h2
  obtain ⟨m, hm, m1, m2⟩ := to_range x.toNat (by omega) h1 h2
  have hw : whole x = m := by unfold whole; rw [hm]; rfl
  refine run_convert_float_int w _ _ .f64 .i64 x.toNat (whole x) (by rw [Tryd.underlying39]; rfl) Tryd.underlying2 ?_
  unfold floatToIntVal
  have hd : FloatKind.f64.decode x.toNat = Ieee.double.read x.toNat := rfl
  rw [hd, hm, hw]
  have e1 : IntKind.i64.min = -9223372036854775808 := by decide
  have e2 : IntKind.i64.max = 9223372036854775807 := by decide
  simp only [e1, e2]
  rw [if_pos ⟨m1, m2⟩]
theorem a_integer (x : Int) (hx0 : 0 ≤ x) (hx1 : x ≤ 18446744073709551615) (w : World) : Calls Tryd.prog 25 #[.float .f64 x.toNat] w fun e w' => e = .returned (.int .u64 (toV x)) ∧ w = w' := by
  cases nx : nanI x
  · cases ord x 4890909195324358656 hx0 hx1 (by omega) (by omega) with
    | none h e => rw [nx, nan_hi] at h; simp at h
    | lt _ _ h e =>
      rw [key_hi] at h
      have e : FloatKind.f64.format.order x.toNat 4890909195324358656 = some .lt := e
      cases ord x 14114281232179134464 hx0 hx1 (by omega) (by omega) with
      | none h e => rw [nx, nan_lo] at h; simp at h
      | lt _ _ k e' =>
        rw [key_lo] at k
        have e' : FloatKind.f64.format.order x.toNat 14114281232179134464 = some .lt := e'
        have hv := toV_lo x nx k
        clear h k
        have n : nan x.toNat = false := nx
        go_enter Tryd.func25, Tryd.ntmps25
        go_wp2_with (go_at_call 34; refine (a_isnan _ _ (by omega) n _).mono ?_; rintro e w1 ⟨rfl, rfl⟩)
        go_ret
        exact ⟨ret_u hv.symm, rfl⟩
      | eq _ _ k e' =>
        rw [key_lo] at k
        have e' : FloatKind.f64.format.order x.toNat 14114281232179134464 = some .eq := e'
        have hv := Lib.hid (toV_in x nx h (by omega))
        have hc := whole_in x hx0 hx1 nx h (by omega)
        clear h k
        have n : nan x.toNat = false := nx
        go_enter Tryd.func25, Tryd.ntmps25
        go_wp2_with (go_at_call 34; refine (a_isnan _ _ (by omega) n _).mono ?_; rintro e w1 ⟨rfl, rfl⟩)
        go_ret
        exact ⟨ret_u hv.out.symm, rfl⟩
      | gt _ _ k e' =>
        rw [key_lo] at k
        have e' : FloatKind.f64.format.order x.toNat 14114281232179134464 = some .gt := e'
        have hv := Lib.hid (toV_in x nx h (by omega))
        have hc := whole_in x hx0 hx1 nx h (by omega)
        clear h k
        have n : nan x.toNat = false := nx
        go_enter Tryd.func25, Tryd.ntmps25
        go_wp2_with (go_at_call 34; refine (a_isnan _ _ (by omega) n _).mono ?_; rintro e w1 ⟨rfl, rfl⟩)
        go_ret
        exact ⟨ret_u hv.out.symm, rfl⟩
    | eq _ _ h e =>
      rw [key_hi] at h
      have e : FloatKind.f64.format.order x.toNat 4890909195324358656 = some .eq := e
      have hv := toV_hi x nx (by omega)
      clear h
      have n : nan x.toNat = false := nx
      go_enter Tryd.func25, Tryd.ntmps25
      go_wp2_with (go_at_call 34; refine (a_isnan _ _ (by omega) n _).mono ?_; rintro e w1 ⟨rfl, rfl⟩)
      go_ret
      exact ⟨ret_u hv.symm, rfl⟩
    | gt _ _ h e =>
      rw [key_hi] at h
      have e : FloatKind.f64.format.order x.toNat 4890909195324358656 = some .gt := e
      have hv := toV_hi x nx (by omega)
      clear h
      have n : nan x.toNat = false := nx
      go_enter Tryd.func25, Tryd.ntmps25
      go_wp2_with (go_at_call 34; refine (a_isnan _ _ (by omega) n _).mono ?_; rintro e w1 ⟨rfl, rfl⟩)
      go_ret
      exact ⟨ret_u hv.symm, rfl⟩
  · have hv := toV_nan x nx
    have n : nan x.toNat = true := nx
    go_enter Tryd.func25, Tryd.ntmps25
    go_wp2_with (go_at_call 34; refine (a_isnan _ _ (by omega) n _).mono ?_; rintro e w1 ⟨rfl, rfl⟩)
    go_ret
    exact ⟨ret_u hv.symm, rfl⟩
theorem r_integer (x : Int) (hx0 : 0 ≤ x) (hx1 : x ≤ 18446744073709551615) (w : World) : Calls Tryd.prog 32 #[.int .u64 x] w fun e w' => e = .returned (.int .u64 (toV x)) ∧ w = w' := by
  cases nx : nanI x
  · cases ord x 4890909195324358656 hx0 hx1 (by omega) (by omega) with
    | none h e => rw [nx, nan_hi] at h; simp at h
    | lt _ _ h e =>
      rw [key_hi] at h
      have e : FloatKind.f64.format.order x.toNat 4890909195324358656 = some .lt := e
      cases ord x 14114281232179134464 hx0 hx1 (by omega) (by omega) with
      | none h e => rw [nx, nan_lo] at h; simp at h
      | lt _ _ k e' =>
        rw [key_lo] at k
        have e' : FloatKind.f64.format.order x.toNat 14114281232179134464 = some .lt := e'
        have hv := toV_lo x nx k
        clear h k
        have n : nanI x = false := nx
        go_enter Tryd.func32, Tryd.ntmps32
        go_wp2_with (first | (go_at_call 29; refine (r_nan _ _ n hx0 hx1 _).mono ?_; rintro e w1 ⟨rfl, rfl⟩) | simp only [x_from])
        go_ret
        exact ⟨ret_u hv.symm, rfl⟩
      | eq _ _ k e' =>
        rw [key_lo] at k
        have e' : FloatKind.f64.format.order x.toNat 14114281232179134464 = some .eq := e'
        have hv := Lib.hid (toV_in x nx h (by omega))
        have hc := whole_in x hx0 hx1 nx h (by omega)
        clear h k
        have n : nanI x = false := nx
        go_enter Tryd.func32, Tryd.ntmps32
        go_wp2_with (first | (go_at_call 29; refine (r_nan _ _ n hx0 hx1 _).mono ?_; rintro e w1 ⟨rfl, rfl⟩) | simp only [x_from])
        go_ret
        exact ⟨ret_u hv.out.symm, rfl⟩
      | gt _ _ k e' =>
        rw [key_lo] at k
        have e' : FloatKind.f64.format.order x.toNat 14114281232179134464 = some .gt := e'
        have hv := Lib.hid (toV_in x nx h (by omega))
        have hc := whole_in x hx0 hx1 nx h (by omega)
        clear h k
        have n : nanI x = false := nx
        go_enter Tryd.func32, Tryd.ntmps32
        go_wp2_with (first | (go_at_call 29; refine (r_nan _ _ n hx0 hx1 _).mono ?_; rintro e w1 ⟨rfl, rfl⟩) | simp only [x_from])
        go_ret
        exact ⟨ret_u hv.out.symm, rfl⟩
    | eq _ _ h e =>
      rw [key_hi] at h
      have e : FloatKind.f64.format.order x.toNat 4890909195324358656 = some .eq := e
      have hv := toV_hi x nx (by omega)
      clear h
      have n : nanI x = false := nx
      go_enter Tryd.func32, Tryd.ntmps32
      go_wp2_with (first | (go_at_call 29; refine (r_nan _ _ n hx0 hx1 _).mono ?_; rintro e w1 ⟨rfl, rfl⟩) | simp only [x_from])
      go_ret
      exact ⟨ret_u hv.symm, rfl⟩
    | gt _ _ h e =>
      rw [key_hi] at h
      have e : FloatKind.f64.format.order x.toNat 4890909195324358656 = some .gt := e
      have hv := toV_hi x nx (by omega)
      clear h
      have n : nanI x = false := nx
      go_enter Tryd.func32, Tryd.ntmps32
      go_wp2_with (first | (go_at_call 29; refine (r_nan _ _ n hx0 hx1 _).mono ?_; rintro e w1 ⟨rfl, rfl⟩) | simp only [x_from])
      go_ret
      exact ⟨ret_u hv.symm, rfl⟩
  · have hv := toV_nan x nx
    have n : nanI x = true := nx
    go_enter Tryd.func32, Tryd.ntmps32
    go_wp2_with (first | (go_at_call 29; refine (r_nan _ _ n hx0 hx1 _).mono ?_; rintro e w1 ⟨rfl, rfl⟩) | simp only [x_from])
    go_ret
    exact ⟨ret_u hv.symm, rfl⟩

/-! ### Apply. -/
/-- Nothing but draws of the tape. -/
def Drawn (w w' : World) : Prop := ∃ n, w' = w.drewN n
theorem Drawn.refl (w : World) : Drawn w w := ⟨0, rfl⟩
theorem Drawn.drew (w : World) : Drawn w w.drew := ⟨1, rfl⟩
theorem run_shl (x y : Int) (hy : 0 ≤ y) (w : World) : (Op.shift .shl .u64 x .u64 (y.tmod 64)).run Tryd.prog w = .ok (.int .u64 (shlV x y)) w := by
  have : ¬ y.tmod 64 < 0 := by rw [Int.tmod_eq_emod_of_nonneg hy]; omega
  unfold Op.shift
  rw [if_neg this]
  rfl
theorem run_shr (x y : Int) (hy : 0 ≤ y) (w : World) : (Op.shift .shr .u64 x .u64 (y.tmod 64)).run Tryd.prog w = .ok (.int .u64 (shrV x y)) w := by
  have : ¬ y.tmod 64 < 0 := by rw [Int.tmod_eq_emod_of_nonneg hy]; omega
  unfold Op.shift
  rw [if_neg this]
  rfl
theorem nan_cut (t x y : Nat) : nan ((Question.nanBits .f64 x y).cut t) = true ∧ (Question.nanBits .f64 x y).cut t < 18446744073709551616 := by
  have e : (Question.nanBits .f64 x y).cut t = (t % 2) * 2 ^ 63 + 0x7ff0000000000000 + 1 + (t / 2) % (2 ^ 52 - 1) := rfl
  rw [e]
  unfold nan
  rw [decide_eq_true_eq]
  generalize (t / 2) = q
  rcases Nat.mod_two_eq_zero_or_one t with h | h <;> rw [h] <;> omega
theorem run_float_none (op : BinOp) (ho : op = .add ∨ op = .sub ∨ op = .mul ∨ op = .quo) (x y : Nat) (h : floatBits op .f64 x y = none) (w : World) :
    ∃ b, nan b = true ∧ b < 18446744073709551616 ∧ ∀ t, (binOp op t (.float .f64 x) (.float .f64 y)).run Tryd.prog w = .ok (.float .f64 b) w.drew := by
  obtain ⟨h1, h2⟩ := nan_cut (w.tape w.drawn (.nanBits .f64 x y)) x y
  refine ⟨(Question.nanBits .f64 x y).cut (w.tape w.drawn (.nanBits .f64 x y)), h1, h2, fun t => ?_⟩
  unfold floatBits at h
  have hf : (Question.nanBits .f64 x y).forced = false := rfl
  rcases ho with rfl | rfl | rfl | rfl <;> simp only at h <;> simp [binOp, Op.floatArith, h, hf]
theorem a_app0 (x y : Int) (hx0 : 0 ≤ x) (hx1 : x ≤ 18446744073709551615) (hy0 : 0 ≤ y) (hy1 : y ≤ 18446744073709551615) (w : World) :
    Calls Tryd.prog 11 #[.int .i64 0, .int .u64 x, .int .u64 y] w fun e w' => e = .returned (.tuple #[.int .u64 (appV 0 x y), .int .i64 0]) ∧ Drawn w w' := by
  go_enter Tryd.func11, Tryd.ntmps11
  go_wp2
  go_ret2
  exact ⟨rfl, Drawn.refl _⟩
theorem a_app1 (x y : Int) (hx0 : 0 ≤ x) (hx1 : x ≤ 18446744073709551615) (hy0 : 0 ≤ y) (hy1 : y ≤ 18446744073709551615) (w : World) :
    Calls Tryd.prog 11 #[.int .i64 1, .int .u64 x, .int .u64 y] w fun e w' => e = .returned (.tuple #[.int .u64 (appV 1 x y), .int .i64 0]) ∧ Drawn w w' := by
  go_enter Tryd.func11, Tryd.ntmps11
  go_wp2
  go_ret2
  exact ⟨rfl, Drawn.refl _⟩
theorem a_app2 (x y : Int) (hx0 : 0 ≤ x) (hx1 : x ≤ 18446744073709551615) (hy0 : 0 ≤ y) (hy1 : y ≤ 18446744073709551615) (w : World) :
    Calls Tryd.prog 11 #[.int .i64 2, .int .u64 x, .int .u64 y] w fun e w' => e = .returned (.tuple #[.int .u64 (appV 2 x y), .int .i64 0]) ∧ Drawn w w' := by
  go_enter Tryd.func11, Tryd.ntmps11
  go_wp2
  go_ret2
  exact ⟨rfl, Drawn.refl _⟩
theorem a_app3 (x y : Int) (hx0 : 0 ≤ x) (hx1 : x ≤ 18446744073709551615) (hy0 : 0 ≤ y) (hy1 : y ≤ 18446744073709551615) (w : World) :
    Calls Tryd.prog 11 #[.int .i64 3, .int .u64 x, .int .u64 y] w fun e w' => e = .returned (.tuple #[.int .u64 (appV 3 x y), .int .i64 0]) ∧ Drawn w w' := by
  go_enter Tryd.func11, Tryd.ntmps11
  go_wp2
  go_ret2
  exact ⟨rfl, Drawn.refl _⟩
theorem a_app4 (x y : Int) (hx0 : 0 ≤ x) (hx1 : x ≤ 18446744073709551615) (hy0 : 0 ≤ y) (hy1 : y ≤ 18446744073709551615) (w : World) :
    Calls Tryd.prog 11 #[.int .i64 4, .int .u64 x, .int .u64 y] w fun e w' => e = .returned (.tuple #[.int .u64 (appV 4 x y), .int .i64 0]) ∧ Drawn w w' := by
  go_enter Tryd.func11, Tryd.ntmps11
  go_wp2
  go_ret2
  exact ⟨rfl, Drawn.refl _⟩
theorem a_app5 (x y : Int) (hx0 : 0 ≤ x) (hx1 : x ≤ 18446744073709551615) (hy0 : 0 ≤ y) (hy1 : y ≤ 18446744073709551615) (w : World) :
    Calls Tryd.prog 11 #[.int .i64 5, .int .u64 x, .int .u64 y] w fun e w' => e = .returned (.tuple #[.int .u64 (appV 5 x y), .int .i64 0]) ∧ Drawn w w' := by
  go_enter Tryd.func11, Tryd.ntmps11
  go_wp2
  go_ret2
  exact ⟨rfl, Drawn.refl _⟩
theorem a_app6 (x y : Int) (hx0 : 0 ≤ x) (hx1 : x ≤ 18446744073709551615) (hy0 : 0 ≤ y) (hy1 : y ≤ 18446744073709551615) (w : World) :
    Calls Tryd.prog 11 #[.int .i64 6, .int .u64 x, .int .u64 y] w fun e w' => e = .returned (.tuple #[.int .u64 (appV 6 x y), .int .i64 0]) ∧ Drawn w w' := by
  have hs := run_shl x y hy0
  clear hx0 hx1 hy0 hy1
  go_enter Tryd.func11, Tryd.ntmps11
  go_wp2
  go_ret2
  exact ⟨rfl, Drawn.refl _⟩
theorem a_app7 (x y : Int) (hx0 : 0 ≤ x) (hx1 : x ≤ 18446744073709551615) (hy0 : 0 ≤ y) (hy1 : y ≤ 18446744073709551615) (w : World) :
    Calls Tryd.prog 11 #[.int .i64 7, .int .u64 x, .int .u64 y] w fun e w' => e = .returned (.tuple #[.int .u64 (appV 7 x y), .int .i64 0]) ∧ Drawn w w' := by
  have hs := run_shr x y hy0
  clear hx0 hx1 hy0 hy1
  go_enter Tryd.func11, Tryd.ntmps11
  go_wp2
  go_ret2
  exact ⟨rfl, Drawn.refl _⟩
theorem a_app8 (x y : Int) (hx0 : 0 ≤ x) (hx1 : x ≤ 18446744073709551615) (hy0 : 0 ≤ y) (hy1 : y ≤ 18446744073709551615) (w : World) :
    Calls Tryd.prog 11 #[.int .i64 8, .int .u64 x, .int .u64 y] w fun e w' => e = .returned (.tuple #[.int .u64 (appV 8 x y), .int .i64 0]) ∧ Drawn w w' := by
  clear hx0 hx1 hy0 hy1
  go_enter Tryd.func11, Tryd.ntmps11
  go_wp2_with (first | (go_at_call 20; refine (a_truth _ _).mono ?_; rintro e w1 ⟨rfl, rfl⟩) | (go_at_call 22; refine (a_float _ _).mono ?_; rintro e w1 ⟨rfl, rfl⟩))
  go_ret2
  exact ⟨rfl, Drawn.refl _⟩
theorem a_app9 (x y : Int) (hx0 : 0 ≤ x) (hx1 : x ≤ 18446744073709551615) (hy0 : 0 ≤ y) (hy1 : y ≤ 18446744073709551615) (w : World) :
    Calls Tryd.prog 11 #[.int .i64 9, .int .u64 x, .int .u64 y] w fun e w' => e = .returned (.tuple #[.int .u64 (appV 9 x y), .int .i64 0]) ∧ Drawn w w' := by
  clear hx0 hx1 hy0 hy1
  go_enter Tryd.func11, Tryd.ntmps11
  go_wp2_with (first | (go_at_call 20; refine (a_truth _ _).mono ?_; rintro e w1 ⟨rfl, rfl⟩) | (go_at_call 22; refine (a_float _ _).mono ?_; rintro e w1 ⟨rfl, rfl⟩))
  go_ret2
  exact ⟨rfl, Drawn.refl _⟩
theorem a_app10 (x y : Int) (hx0 : 0 ≤ x) (hx1 : x ≤ 18446744073709551615) (hy0 : 0 ≤ y) (hy1 : y ≤ 18446744073709551615) (w : World) :
    Calls Tryd.prog 11 #[.int .i64 10, .int .u64 x, .int .u64 y] w fun e w' => e = .returned (.tuple #[.int .u64 (appV 10 x y), .int .i64 0]) ∧ Drawn w w' := by
  clear hx0 hx1 hy0 hy1
  go_enter Tryd.func11, Tryd.ntmps11
  go_wp2_with (first | (go_at_call 20; refine (a_truth _ _).mono ?_; rintro e w1 ⟨rfl, rfl⟩) | (go_at_call 22; refine (a_float _ _).mono ?_; rintro e w1 ⟨rfl, rfl⟩))
  go_ret2
  exact ⟨rfl, Drawn.refl _⟩
theorem a_app11 (x y : Int) (hx0 : 0 ≤ x) (hx1 : x ≤ 18446744073709551615) (hy0 : 0 ≤ y) (hy1 : y ≤ 18446744073709551615) (w : World) :
    Calls Tryd.prog 11 #[.int .i64 11, .int .u64 x, .int .u64 y] w fun e w' => e = .returned (.tuple #[.int .u64 (appV 11 x y), .int .i64 0]) ∧ Drawn w w' := by
  clear hx0 hx1 hy0 hy1
  go_enter Tryd.func11, Tryd.ntmps11
  go_wp2_with (first | (go_at_call 20; refine (a_truth _ _).mono ?_; rintro e w1 ⟨rfl, rfl⟩) | (go_at_call 22; refine (a_float _ _).mono ?_; rintro e w1 ⟨rfl, rfl⟩))
  go_ret2
  exact ⟨rfl, Drawn.refl _⟩
theorem a_app12 (x y : Int) (hx0 : 0 ≤ x) (hx1 : x ≤ 18446744073709551615) (hy0 : 0 ≤ y) (hy1 : y ≤ 18446744073709551615) (w : World) :
    Calls Tryd.prog 11 #[.int .i64 12, .int .u64 x, .int .u64 y] w fun e w' => e = .returned (.tuple #[.int .u64 (appV 12 x y), .int .i64 0]) ∧ Drawn w w' := by
  cases hf : floatBits .add .f64 x.toNat y.toNat with
  | none =>
    obtain ⟨b, hb, hl, hop⟩ := run_float_none .add (by simp) x.toNat y.toNat hf w
    have hv := Lib.hid (show appV 12 x y = fw (floatBits .add .f64 x.toNat y.toNat) from rfl)
    have hf := Lib.hid hf
    clear hx0 hx1 hy0 hy1
    go_enter Tryd.func11, Tryd.ntmps11
    go_wp2_with (first | (go_at_call 21; refine (a_word_nan _ hl hb _).mono ?_; rintro e w1 ⟨rfl, rfl⟩) | (go_at_call 22; refine (a_float _ _).mono ?_; rintro e w1 ⟨rfl, rfl⟩))
    go_ret2
    exact ⟨ret_p (by rw [hv.out, hf.out]; rfl) rfl, Drawn.drew _⟩
  | some b =>
    have hb := floatBits_not_nan hf
    have hl : b < 18446744073709551616 := of_decide_eq_true (floatBits_wf hf)
    have hop := fun t => run_float_arith (P := Tryd.prog) w .add t .f64 x.toNat y.toNat b hf
    have hv := Lib.hid (show appV 12 x y = fw (floatBits .add .f64 x.toNat y.toNat) from rfl)
    have hf := Lib.hid hf
    clear hx0 hx1 hy0 hy1
    go_enter Tryd.func11, Tryd.ntmps11
    go_wp2_with (first | (go_at_call 21; refine (a_word_num _ hl hb _).mono ?_; rintro e w1 ⟨rfl, rfl⟩) | (go_at_call 22; refine (a_float _ _).mono ?_; rintro e w1 ⟨rfl, rfl⟩))
    go_ret2
    exact ⟨ret_p (by rw [hv.out, hf.out]; rfl) rfl, Drawn.refl _⟩
theorem a_app13 (x y : Int) (hx0 : 0 ≤ x) (hx1 : x ≤ 18446744073709551615) (hy0 : 0 ≤ y) (hy1 : y ≤ 18446744073709551615) (w : World) :
    Calls Tryd.prog 11 #[.int .i64 13, .int .u64 x, .int .u64 y] w fun e w' => e = .returned (.tuple #[.int .u64 (appV 13 x y), .int .i64 0]) ∧ Drawn w w' := by
  cases hf : floatBits .sub .f64 x.toNat y.toNat with
  | none =>
    obtain ⟨b, hb, hl, hop⟩ := run_float_none .sub (by simp) x.toNat y.toNat hf w
    have hv := Lib.hid (show appV 13 x y = fw (floatBits .sub .f64 x.toNat y.toNat) from rfl)
    have hf := Lib.hid hf
    clear hx0 hx1 hy0 hy1
    go_enter Tryd.func11, Tryd.ntmps11
    go_wp2_with (first | (go_at_call 21; refine (a_word_nan _ hl hb _).mono ?_; rintro e w1 ⟨rfl, rfl⟩) | (go_at_call 22; refine (a_float _ _).mono ?_; rintro e w1 ⟨rfl, rfl⟩))
    go_ret2
    exact ⟨ret_p (by rw [hv.out, hf.out]; rfl) rfl, Drawn.drew _⟩
  | some b =>
    have hb := floatBits_not_nan hf
    have hl : b < 18446744073709551616 := of_decide_eq_true (floatBits_wf hf)
    have hop := fun t => run_float_arith (P := Tryd.prog) w .sub t .f64 x.toNat y.toNat b hf
    have hv := Lib.hid (show appV 13 x y = fw (floatBits .sub .f64 x.toNat y.toNat) from rfl)
    have hf := Lib.hid hf
    clear hx0 hx1 hy0 hy1
    go_enter Tryd.func11, Tryd.ntmps11
    go_wp2_with (first | (go_at_call 21; refine (a_word_num _ hl hb _).mono ?_; rintro e w1 ⟨rfl, rfl⟩) | (go_at_call 22; refine (a_float _ _).mono ?_; rintro e w1 ⟨rfl, rfl⟩))
    go_ret2
    exact ⟨ret_p (by rw [hv.out, hf.out]; rfl) rfl, Drawn.refl _⟩
theorem a_app14 (x y : Int) (hx0 : 0 ≤ x) (hx1 : x ≤ 18446744073709551615) (hy0 : 0 ≤ y) (hy1 : y ≤ 18446744073709551615) (w : World) :
    Calls Tryd.prog 11 #[.int .i64 14, .int .u64 x, .int .u64 y] w fun e w' => e = .returned (.tuple #[.int .u64 (appV 14 x y), .int .i64 0]) ∧ Drawn w w' := by
  cases hf : floatBits .mul .f64 x.toNat y.toNat with
  | none =>
    obtain ⟨b, hb, hl, hop⟩ := run_float_none .mul (by simp) x.toNat y.toNat hf w
    have hv := Lib.hid (show appV 14 x y = fw (floatBits .mul .f64 x.toNat y.toNat) from rfl)
    have hf := Lib.hid hf
    clear hx0 hx1 hy0 hy1
    go_enter Tryd.func11, Tryd.ntmps11
    go_wp2_with (first | (go_at_call 21; refine (a_word_nan _ hl hb _).mono ?_; rintro e w1 ⟨rfl, rfl⟩) | (go_at_call 22; refine (a_float _ _).mono ?_; rintro e w1 ⟨rfl, rfl⟩))
    go_ret2
    exact ⟨ret_p (by rw [hv.out, hf.out]; rfl) rfl, Drawn.drew _⟩
  | some b =>
    have hb := floatBits_not_nan hf
    have hl : b < 18446744073709551616 := of_decide_eq_true (floatBits_wf hf)
    have hop := fun t => run_float_arith (P := Tryd.prog) w .mul t .f64 x.toNat y.toNat b hf
    have hv := Lib.hid (show appV 14 x y = fw (floatBits .mul .f64 x.toNat y.toNat) from rfl)
    have hf := Lib.hid hf
    clear hx0 hx1 hy0 hy1
    go_enter Tryd.func11, Tryd.ntmps11
    go_wp2_with (first | (go_at_call 21; refine (a_word_num _ hl hb _).mono ?_; rintro e w1 ⟨rfl, rfl⟩) | (go_at_call 22; refine (a_float _ _).mono ?_; rintro e w1 ⟨rfl, rfl⟩))
    go_ret2
    exact ⟨ret_p (by rw [hv.out, hf.out]; rfl) rfl, Drawn.refl _⟩
theorem a_app15 (x y : Int) (hx0 : 0 ≤ x) (hx1 : x ≤ 18446744073709551615) (hy0 : 0 ≤ y) (hy1 : y ≤ 18446744073709551615) (w : World) :
    Calls Tryd.prog 11 #[.int .i64 15, .int .u64 x, .int .u64 y] w fun e w' => e = .returned (.tuple #[.int .u64 (appV 15 x y), .int .i64 0]) ∧ Drawn w w' := by
  cases hf : floatBits .quo .f64 x.toNat y.toNat with
  | none =>
    obtain ⟨b, hb, hl, hop⟩ := run_float_none .quo (by simp) x.toNat y.toNat hf w
    have hv := Lib.hid (show appV 15 x y = fw (floatBits .quo .f64 x.toNat y.toNat) from rfl)
    have hf := Lib.hid hf
    clear hx0 hx1 hy0 hy1
    go_enter Tryd.func11, Tryd.ntmps11
    go_wp2_with (first | (go_at_call 21; refine (a_word_nan _ hl hb _).mono ?_; rintro e w1 ⟨rfl, rfl⟩) | (go_at_call 22; refine (a_float _ _).mono ?_; rintro e w1 ⟨rfl, rfl⟩))
    go_ret2
    exact ⟨ret_p (by rw [hv.out, hf.out]; rfl) rfl, Drawn.drew _⟩
  | some b =>
    have hb := floatBits_not_nan hf
    have hl : b < 18446744073709551616 := of_decide_eq_true (floatBits_wf hf)
    have hop := fun t => run_float_arith (P := Tryd.prog) w .quo t .f64 x.toNat y.toNat b hf
    have hv := Lib.hid (show appV 15 x y = fw (floatBits .quo .f64 x.toNat y.toNat) from rfl)
    have hf := Lib.hid hf
    clear hx0 hx1 hy0 hy1
    go_enter Tryd.func11, Tryd.ntmps11
    go_wp2_with (first | (go_at_call 21; refine (a_word_num _ hl hb _).mono ?_; rintro e w1 ⟨rfl, rfl⟩) | (go_at_call 22; refine (a_float _ _).mono ?_; rintro e w1 ⟨rfl, rfl⟩))
    go_ret2
    exact ⟨ret_p (by rw [hv.out, hf.out]; rfl) rfl, Drawn.refl _⟩
theorem a_app16 (x y : Int) (hx0 : 0 ≤ x) (hx1 : x ≤ 18446744073709551615) (hy0 : 0 ≤ y) (hy1 : y ≤ 18446744073709551615) (w : World) :
    Calls Tryd.prog 11 #[.int .i64 16, .int .u64 x, .int .u64 y] w fun e w' => e = .returned (.tuple #[.int .u64 (appV 16 x y), .int .i64 0]) ∧ Drawn w w' := by
  go_enter Tryd.func11, Tryd.ntmps11
  go_wp2_with (first | (go_at_call 23; refine (a_lesser _ _ hx0 hx1 hy0 hy1 _).mono ?_; rintro e w1 ⟨rfl, rfl⟩) | (go_at_call 22; refine (a_float _ _).mono ?_; rintro e w1 ⟨rfl, rfl⟩))
  go_ret2
  exact ⟨rfl, Drawn.refl _⟩
theorem a_app17 (x y : Int) (hx0 : 0 ≤ x) (hx1 : x ≤ 18446744073709551615) (hy0 : 0 ≤ y) (hy1 : y ≤ 18446744073709551615) (w : World) :
    Calls Tryd.prog 11 #[.int .i64 17, .int .u64 x, .int .u64 y] w fun e w' => e = .returned (.tuple #[.int .u64 (appV 17 x y), .int .i64 0]) ∧ Drawn w w' := by
  go_enter Tryd.func11, Tryd.ntmps11
  go_wp2_with (first | (go_at_call 24; refine (a_greater _ _ hx0 hx1 hy0 hy1 _).mono ?_; rintro e w1 ⟨rfl, rfl⟩) | (go_at_call 22; refine (a_float _ _).mono ?_; rintro e w1 ⟨rfl, rfl⟩))
  go_ret2
  exact ⟨rfl, Drawn.refl _⟩
theorem a_app18 (x y : Int) (hx0 : 0 ≤ x) (hx1 : x ≤ 18446744073709551615) (hy0 : 0 ≤ y) (hy1 : y ≤ 18446744073709551615) (w : World) :
    Calls Tryd.prog 11 #[.int .i64 18, .int .u64 x, .int .u64 y] w fun e w' => e = .returned (.tuple #[.int .u64 (appV 18 x y), .int .i64 0]) ∧ Drawn w w' := by
  cases ord x y hx0 hx1 hy0 hy1 with
  | none h e =>
    have hv := Lib.hid (eqV_nan x y h)
    clear h
    go_enter Tryd.func11, Tryd.ntmps11
    go_wp2_with (first | (go_at_call 20; refine (a_truth _ _).mono ?_; rintro e w1 ⟨rfl, rfl⟩) | (go_at_call 22; refine (a_float _ _).mono ?_; rintro e w1 ⟨rfl, rfl⟩))
    go_ret2
    exact ⟨ret_p (by show _ = tr (eqV x y); rw [hv.out]) rfl, Drawn.refl _⟩
  | lt nx ny h e =>
    have hv : Hid (eqV x y = false) := Lib.hid (by rw [eqV_num x y nx ny]; simp; omega)
    clear h
    go_enter Tryd.func11, Tryd.ntmps11
    go_wp2_with (first | (go_at_call 20; refine (a_truth _ _).mono ?_; rintro e w1 ⟨rfl, rfl⟩) | (go_at_call 22; refine (a_float _ _).mono ?_; rintro e w1 ⟨rfl, rfl⟩))
    go_ret2
    exact ⟨ret_p (by show _ = tr (eqV x y); rw [hv.out]) rfl, Drawn.refl _⟩
  | eq nx ny h e =>
    have hv : Hid (eqV x y = true) := Lib.hid (by rw [eqV_num x y nx ny]; simp; omega)
    clear h
    go_enter Tryd.func11, Tryd.ntmps11
    go_wp2_with (first | (go_at_call 20; refine (a_truth _ _).mono ?_; rintro e w1 ⟨rfl, rfl⟩) | (go_at_call 22; refine (a_float _ _).mono ?_; rintro e w1 ⟨rfl, rfl⟩))
    go_ret2
    exact ⟨ret_p (by show _ = tr (eqV x y); rw [hv.out]) rfl, Drawn.refl _⟩
  | gt nx ny h e =>
    have hv : Hid (eqV x y = false) := Lib.hid (by rw [eqV_num x y nx ny]; simp; omega)
    clear h
    go_enter Tryd.func11, Tryd.ntmps11
    go_wp2_with (first | (go_at_call 20; refine (a_truth _ _).mono ?_; rintro e w1 ⟨rfl, rfl⟩) | (go_at_call 22; refine (a_float _ _).mono ?_; rintro e w1 ⟨rfl, rfl⟩))
    go_ret2
    exact ⟨ret_p (by show _ = tr (eqV x y); rw [hv.out]) rfl, Drawn.refl _⟩
theorem a_app19 (x y : Int) (hx0 : 0 ≤ x) (hx1 : x ≤ 18446744073709551615) (hy0 : 0 ≤ y) (hy1 : y ≤ 18446744073709551615) (w : World) :
    Calls Tryd.prog 11 #[.int .i64 19, .int .u64 x, .int .u64 y] w fun e w' => e = .returned (.tuple #[.int .u64 (appV 19 x y), .int .i64 0]) ∧ Drawn w w' := by
  cases ord x y hx0 hx1 hy0 hy1 with
  | none h e =>
    have hv := Lib.hid (ltV_nan x y h)
    clear h
    go_enter Tryd.func11, Tryd.ntmps11
    go_wp2_with (first | (go_at_call 20; refine (a_truth _ _).mono ?_; rintro e w1 ⟨rfl, rfl⟩) | (go_at_call 22; refine (a_float _ _).mono ?_; rintro e w1 ⟨rfl, rfl⟩))
    go_ret2
    exact ⟨ret_p (by show _ = tr (ltV x y); rw [hv.out]) rfl, Drawn.refl _⟩
  | lt nx ny h e =>
    have hv : Hid (ltV x y = true) := Lib.hid (by rw [ltV_num x y nx ny]; simp; omega)
    clear h
    go_enter Tryd.func11, Tryd.ntmps11
    go_wp2_with (first | (go_at_call 20; refine (a_truth _ _).mono ?_; rintro e w1 ⟨rfl, rfl⟩) | (go_at_call 22; refine (a_float _ _).mono ?_; rintro e w1 ⟨rfl, rfl⟩))
    go_ret2
    exact ⟨ret_p (by show _ = tr (ltV x y); rw [hv.out]) rfl, Drawn.refl _⟩
  | eq nx ny h e =>
    have hv : Hid (ltV x y = false) := Lib.hid (by rw [ltV_num x y nx ny]; simp; omega)
    clear h
    go_enter Tryd.func11, Tryd.ntmps11
    go_wp2_with (first | (go_at_call 20; refine (a_truth _ _).mono ?_; rintro e w1 ⟨rfl, rfl⟩) | (go_at_call 22; refine (a_float _ _).mono ?_; rintro e w1 ⟨rfl, rfl⟩))
    go_ret2
    exact ⟨ret_p (by show _ = tr (ltV x y); rw [hv.out]) rfl, Drawn.refl _⟩
  | gt nx ny h e =>
    have hv : Hid (ltV x y = false) := Lib.hid (by rw [ltV_num x y nx ny]; simp; omega)
    clear h
    go_enter Tryd.func11, Tryd.ntmps11
    go_wp2_with (first | (go_at_call 20; refine (a_truth _ _).mono ?_; rintro e w1 ⟨rfl, rfl⟩) | (go_at_call 22; refine (a_float _ _).mono ?_; rintro e w1 ⟨rfl, rfl⟩))
    go_ret2
    exact ⟨ret_p (by show _ = tr (ltV x y); rw [hv.out]) rfl, Drawn.refl _⟩
theorem a_app20 (x y : Int) (hx0 : 0 ≤ x) (hx1 : x ≤ 18446744073709551615) (hy0 : 0 ≤ y) (hy1 : y ≤ 18446744073709551615) (w : World) :
    Calls Tryd.prog 11 #[.int .i64 20, .int .u64 x, .int .u64 y] w fun e w' => e = .returned (.tuple #[.int .u64 (appV 20 x y), .int .i64 0]) ∧ Drawn w w' := by
  have hl := floatOfInt_lt (wrap64 x)
  have hn := floatOfInt_not_nan (wrap64 x)
  clear hx0 hx1 hy0 hy1
  go_enter Tryd.func11, Tryd.ntmps11
  go_wp2_with (first | (go_at_call 21; refine (a_word_num _ hl hn _).mono ?_; rintro e w1 ⟨rfl, rfl⟩) | (go_at_call 22; refine (a_float _ _).mono ?_; rintro e w1 ⟨rfl, rfl⟩))
  go_ret2
  exact ⟨rfl, Drawn.refl _⟩
theorem a_app21 (x y : Int) (hx0 : 0 ≤ x) (hx1 : x ≤ 18446744073709551615) (hy0 : 0 ≤ y) (hy1 : y ≤ 18446744073709551615) (w : World) :
    Calls Tryd.prog 11 #[.int .i64 21, .int .u64 x, .int .u64 y] w fun e w' => e = .returned (.tuple #[.int .u64 (appV 21 x y), .int .i64 0]) ∧ Drawn w w' := by
  go_enter Tryd.func11, Tryd.ntmps11
  go_wp2_with (first | (go_at_call 25; refine (a_integer x hx0 hx1 _).mono ?_; rintro e w1 ⟨rfl, rfl⟩) | (go_at_call 22; refine (a_float _ _).mono ?_; rintro e w1 ⟨rfl, rfl⟩))
  go_ret2
  exact ⟨rfl, Drawn.refl _⟩
theorem a_app_no (fn x y : Int) (h : fn < 0 ∨ 22 ≤ fn) (w : World) :
    Calls Tryd.prog 11 #[.int .i64 fn, .int .u64 x, .int .u64 y] w fun e w' => e = .returned (.tuple #[.int .u64 0, .int .i64 10]) ∧ Drawn w w' := by
  have n0 : (fn == 0) = false := by rw [beq_eq_false_iff_ne]; omega
  have n1 : (fn == 1) = false := by rw [beq_eq_false_iff_ne]; omega
  have n2 : (fn == 2) = false := by rw [beq_eq_false_iff_ne]; omega
  have n3 : (fn == 3) = false := by rw [beq_eq_false_iff_ne]; omega
  have n4 : (fn == 4) = false := by rw [beq_eq_false_iff_ne]; omega
  have n5 : (fn == 5) = false := by rw [beq_eq_false_iff_ne]; omega
  have n6 : (fn == 6) = false := by rw [beq_eq_false_iff_ne]; omega
  have n7 : (fn == 7) = false := by rw [beq_eq_false_iff_ne]; omega
  have n8 : (fn == 8) = false := by rw [beq_eq_false_iff_ne]; omega
  have n9 : (fn == 9) = false := by rw [beq_eq_false_iff_ne]; omega
  have n10 : (fn == 10) = false := by rw [beq_eq_false_iff_ne]; omega
  have n11 : (fn == 11) = false := by rw [beq_eq_false_iff_ne]; omega
  have n12 : (fn == 12) = false := by rw [beq_eq_false_iff_ne]; omega
  have n13 : (fn == 13) = false := by rw [beq_eq_false_iff_ne]; omega
  have n14 : (fn == 14) = false := by rw [beq_eq_false_iff_ne]; omega
  have n15 : (fn == 15) = false := by rw [beq_eq_false_iff_ne]; omega
  have n16 : (fn == 16) = false := by rw [beq_eq_false_iff_ne]; omega
  have n17 : (fn == 17) = false := by rw [beq_eq_false_iff_ne]; omega
  have n18 : (fn == 18) = false := by rw [beq_eq_false_iff_ne]; omega
  have n19 : (fn == 19) = false := by rw [beq_eq_false_iff_ne]; omega
  have n20 : (fn == 20) = false := by rw [beq_eq_false_iff_ne]; omega
  have n21 : (fn == 21) = false := by rw [beq_eq_false_iff_ne]; omega
  clear h
  go_enter Tryd.func11, Tryd.ntmps11
  go_wp2
  go_ret2
  exact ⟨rfl, Drawn.refl _⟩
/-- Whatever the number of the function: the word and the error of the document. -/
theorem a_apply (fn x y : Int) (hx0 : 0 ≤ x) (hx1 : x ≤ 18446744073709551615) (hy0 : 0 ≤ y) (hy1 : y ≤ 18446744073709551615) (w : World) :
    Calls Tryd.prog 11 #[.int .i64 fn, .int .u64 x, .int .u64 y] w fun e w' => e = .returned (.tuple #[.int .u64 (appV fn x y), .int .i64 (appE fn)]) ∧ Drawn w w' := by
  by_cases h : 0 ≤ fn ∧ fn < 22
  · have he : appE fn = 0 := if_pos h
    rw [he]
    have hc : fn = 0 ∨ fn = 1 ∨ fn = 2 ∨ fn = 3 ∨ fn = 4 ∨ fn = 5 ∨ fn = 6 ∨ fn = 7 ∨ fn = 8 ∨ fn = 9 ∨ fn = 10 ∨ fn = 11 ∨ fn = 12 ∨ fn = 13 ∨ fn = 14 ∨ fn = 15 ∨ fn = 16 ∨ fn = 17 ∨ fn = 18 ∨ fn = 19 ∨ fn = 20 ∨ fn = 21 := by omega
    rcases hc with rfl | rfl | rfl | rfl | rfl | rfl | rfl | rfl | rfl | rfl | rfl | rfl | rfl | rfl | rfl | rfl | rfl | rfl | rfl | rfl | rfl | rfl
    · exact a_app0 x y hx0 hx1 hy0 hy1 w
    · exact a_app1 x y hx0 hx1 hy0 hy1 w
    · exact a_app2 x y hx0 hx1 hy0 hy1 w
    · exact a_app3 x y hx0 hx1 hy0 hy1 w
    · exact a_app4 x y hx0 hx1 hy0 hy1 w
    · exact a_app5 x y hx0 hx1 hy0 hy1 w
    · exact a_app6 x y hx0 hx1 hy0 hy1 w
    · exact a_app7 x y hx0 hx1 hy0 hy1 w
    · exact a_app8 x y hx0 hx1 hy0 hy1 w
    · exact a_app9 x y hx0 hx1 hy0 hy1 w
    · exact a_app10 x y hx0 hx1 hy0 hy1 w
    · exact a_app11 x y hx0 hx1 hy0 hy1 w
    · exact a_app12 x y hx0 hx1 hy0 hy1 w
    · exact a_app13 x y hx0 hx1 hy0 hy1 w
    · exact a_app14 x y hx0 hx1 hy0 hy1 w
    · exact a_app15 x y hx0 hx1 hy0 hy1 w
    · exact a_app16 x y hx0 hx1 hy0 hy1 w
    · exact a_app17 x y hx0 hx1 hy0 hy1 w
    · exact a_app18 x y hx0 hx1 hy0 hy1 w
    · exact a_app19 x y hx0 hx1 hy0 hy1 w
    · exact a_app20 x y hx0 hx1 hy0 hy1 w
    · exact a_app21 x y hx0 hx1 hy0 hy1 w
  · have he : appE fn = 10 := if_neg h
    have hv : appV fn x y = 0 := by
      unfold appV
      rw [if_neg (by omega), if_neg (by omega), if_neg (by omega), if_neg (by omega), if_neg (by omega), if_neg (by omega), if_neg (by omega), if_neg (by omega), if_neg (by omega), if_neg (by omega), if_neg (by omega), if_neg (by omega), if_neg (by omega), if_neg (by omega), if_neg (by omega), if_neg (by omega), if_neg (by omega), if_neg (by omega), if_neg (by omega), if_neg (by omega), if_neg (by omega), if_neg (by omega)]
    rw [he, hv]
    exact a_app_no fn x y (by omega) w
theorem r_app0 (x y : Int) (hx0 : 0 ≤ x) (hx1 : x ≤ 18446744073709551615) (hy0 : 0 ≤ y) (hy1 : y ≤ 18446744073709551615) (w : World) :
    Calls Tryd.prog 12 #[.int .i64 0, .int .u64 x, .int .u64 y] w fun e w' => e = .returned (.tuple #[.int .u64 (appV 0 x y), .int .i64 0]) ∧ Drawn w w' := by
  go_enter Tryd.func12, Tryd.ntmps12
  go_wp2_with (first | simp only [x_from])
  go_ret2
  exact ⟨rfl, Drawn.refl _⟩
theorem r_app1 (x y : Int) (hx0 : 0 ≤ x) (hx1 : x ≤ 18446744073709551615) (hy0 : 0 ≤ y) (hy1 : y ≤ 18446744073709551615) (w : World) :
    Calls Tryd.prog 12 #[.int .i64 1, .int .u64 x, .int .u64 y] w fun e w' => e = .returned (.tuple #[.int .u64 (appV 1 x y), .int .i64 0]) ∧ Drawn w w' := by
  go_enter Tryd.func12, Tryd.ntmps12
  go_wp2_with (first | simp only [x_from])
  go_ret2
  exact ⟨rfl, Drawn.refl _⟩
theorem r_app2 (x y : Int) (hx0 : 0 ≤ x) (hx1 : x ≤ 18446744073709551615) (hy0 : 0 ≤ y) (hy1 : y ≤ 18446744073709551615) (w : World) :
    Calls Tryd.prog 12 #[.int .i64 2, .int .u64 x, .int .u64 y] w fun e w' => e = .returned (.tuple #[.int .u64 (appV 2 x y), .int .i64 0]) ∧ Drawn w w' := by
  go_enter Tryd.func12, Tryd.ntmps12
  go_wp2_with (first | simp only [x_from])
  go_ret2
  exact ⟨rfl, Drawn.refl _⟩
theorem r_app3 (x y : Int) (hx0 : 0 ≤ x) (hx1 : x ≤ 18446744073709551615) (hy0 : 0 ≤ y) (hy1 : y ≤ 18446744073709551615) (w : World) :
    Calls Tryd.prog 12 #[.int .i64 3, .int .u64 x, .int .u64 y] w fun e w' => e = .returned (.tuple #[.int .u64 (appV 3 x y), .int .i64 0]) ∧ Drawn w w' := by
  go_enter Tryd.func12, Tryd.ntmps12
  go_wp2_with (first | simp only [x_from])
  go_ret2
  exact ⟨rfl, Drawn.refl _⟩
theorem r_app4 (x y : Int) (hx0 : 0 ≤ x) (hx1 : x ≤ 18446744073709551615) (hy0 : 0 ≤ y) (hy1 : y ≤ 18446744073709551615) (w : World) :
    Calls Tryd.prog 12 #[.int .i64 4, .int .u64 x, .int .u64 y] w fun e w' => e = .returned (.tuple #[.int .u64 (appV 4 x y), .int .i64 0]) ∧ Drawn w w' := by
  go_enter Tryd.func12, Tryd.ntmps12
  go_wp2_with (first | simp only [x_from])
  go_ret2
  exact ⟨rfl, Drawn.refl _⟩
theorem r_app5 (x y : Int) (hx0 : 0 ≤ x) (hx1 : x ≤ 18446744073709551615) (hy0 : 0 ≤ y) (hy1 : y ≤ 18446744073709551615) (w : World) :
    Calls Tryd.prog 12 #[.int .i64 5, .int .u64 x, .int .u64 y] w fun e w' => e = .returned (.tuple #[.int .u64 (appV 5 x y), .int .i64 0]) ∧ Drawn w w' := by
  go_enter Tryd.func12, Tryd.ntmps12
  go_wp2_with (first | simp only [x_from])
  go_ret2
  exact ⟨rfl, Drawn.refl _⟩
theorem r_app6 (x y : Int) (hx0 : 0 ≤ x) (hx1 : x ≤ 18446744073709551615) (hy0 : 0 ≤ y) (hy1 : y ≤ 18446744073709551615) (w : World) :
    Calls Tryd.prog 12 #[.int .i64 6, .int .u64 x, .int .u64 y] w fun e w' => e = .returned (.tuple #[.int .u64 (appV 6 x y), .int .i64 0]) ∧ Drawn w w' := by
  have hs := run_shl x y hy0
  clear hx0 hx1 hy0 hy1
  go_enter Tryd.func12, Tryd.ntmps12
  go_wp2_with (first | simp only [x_from])
  go_ret2
  exact ⟨rfl, Drawn.refl _⟩
theorem r_app7 (x y : Int) (hx0 : 0 ≤ x) (hx1 : x ≤ 18446744073709551615) (hy0 : 0 ≤ y) (hy1 : y ≤ 18446744073709551615) (w : World) :
    Calls Tryd.prog 12 #[.int .i64 7, .int .u64 x, .int .u64 y] w fun e w' => e = .returned (.tuple #[.int .u64 (appV 7 x y), .int .i64 0]) ∧ Drawn w w' := by
  have hs := run_shr x y hy0
  clear hx0 hx1 hy0 hy1
  go_enter Tryd.func12, Tryd.ntmps12
  go_wp2_with (first | simp only [x_from])
  go_ret2
  exact ⟨rfl, Drawn.refl _⟩
theorem r_app8 (x y : Int) (hx0 : 0 ≤ x) (hx1 : x ≤ 18446744073709551615) (hy0 : 0 ≤ y) (hy1 : y ≤ 18446744073709551615) (w : World) :
    Calls Tryd.prog 12 #[.int .i64 8, .int .u64 x, .int .u64 y] w fun e w' => e = .returned (.tuple #[.int .u64 (appV 8 x y), .int .i64 0]) ∧ Drawn w w' := by
  clear hx0 hx1 hy0 hy1
  go_enter Tryd.func12, Tryd.ntmps12
  go_wp2_with (first | (go_at_call 27; refine (r_truth _ _).mono ?_; rintro e w1 ⟨rfl, rfl⟩) | simp only [x_from])
  go_ret2
  exact ⟨rfl, Drawn.refl _⟩
theorem r_app9 (x y : Int) (hx0 : 0 ≤ x) (hx1 : x ≤ 18446744073709551615) (hy0 : 0 ≤ y) (hy1 : y ≤ 18446744073709551615) (w : World) :
    Calls Tryd.prog 12 #[.int .i64 9, .int .u64 x, .int .u64 y] w fun e w' => e = .returned (.tuple #[.int .u64 (appV 9 x y), .int .i64 0]) ∧ Drawn w w' := by
  clear hx0 hx1 hy0 hy1
  go_enter Tryd.func12, Tryd.ntmps12
  go_wp2_with (first | (go_at_call 27; refine (r_truth _ _).mono ?_; rintro e w1 ⟨rfl, rfl⟩) | simp only [x_from])
  go_ret2
  exact ⟨rfl, Drawn.refl _⟩
theorem r_app10 (x y : Int) (hx0 : 0 ≤ x) (hx1 : x ≤ 18446744073709551615) (hy0 : 0 ≤ y) (hy1 : y ≤ 18446744073709551615) (w : World) :
    Calls Tryd.prog 12 #[.int .i64 10, .int .u64 x, .int .u64 y] w fun e w' => e = .returned (.tuple #[.int .u64 (appV 10 x y), .int .i64 0]) ∧ Drawn w w' := by
  clear hx0 hx1 hy0 hy1
  go_enter Tryd.func12, Tryd.ntmps12
  go_wp2_with (first | (go_at_call 27; refine (r_truth _ _).mono ?_; rintro e w1 ⟨rfl, rfl⟩) | simp only [x_from])
  go_ret2
  exact ⟨rfl, Drawn.refl _⟩
theorem r_app11 (x y : Int) (hx0 : 0 ≤ x) (hx1 : x ≤ 18446744073709551615) (hy0 : 0 ≤ y) (hy1 : y ≤ 18446744073709551615) (w : World) :
    Calls Tryd.prog 12 #[.int .i64 11, .int .u64 x, .int .u64 y] w fun e w' => e = .returned (.tuple #[.int .u64 (appV 11 x y), .int .i64 0]) ∧ Drawn w w' := by
  clear hx0 hx1 hy0 hy1
  go_enter Tryd.func12, Tryd.ntmps12
  go_wp2_with (first | (go_at_call 27; refine (r_truth _ _).mono ?_; rintro e w1 ⟨rfl, rfl⟩) | simp only [x_from])
  go_ret2
  exact ⟨rfl, Drawn.refl _⟩
theorem r_app12 (x y : Int) (hx0 : 0 ≤ x) (hx1 : x ≤ 18446744073709551615) (hy0 : 0 ≤ y) (hy1 : y ≤ 18446744073709551615) (w : World) :
    Calls Tryd.prog 12 #[.int .i64 12, .int .u64 x, .int .u64 y] w fun e w' => e = .returned (.tuple #[.int .u64 (appV 12 x y), .int .i64 0]) ∧ Drawn w w' := by
  cases hf : floatBits .add .f64 x.toNat y.toNat with
  | none =>
    obtain ⟨b, hb, hl, hop⟩ := run_float_none .add (by simp) x.toNat y.toNat hf w
    have hv := Lib.hid (show appV 12 x y = fw (floatBits .add .f64 x.toNat y.toNat) from rfl)
    have hf := Lib.hid hf
    clear hx0 hx1 hy0 hy1
    go_enter Tryd.func12, Tryd.ntmps12
    go_wp2_with (first | (go_at_call 28; refine (r_number_nan _ hl hb _).mono ?_; rintro e w1 ⟨rfl, rfl⟩) | simp only [x_from])
    go_ret2
    exact ⟨ret_p (by rw [hv.out, hf.out]; rfl) rfl, Drawn.drew _⟩
  | some b =>
    have hb := floatBits_not_nan hf
    have hl : b < 18446744073709551616 := of_decide_eq_true (floatBits_wf hf)
    have hop := fun t => run_float_arith (P := Tryd.prog) w .add t .f64 x.toNat y.toNat b hf
    have hv := Lib.hid (show appV 12 x y = fw (floatBits .add .f64 x.toNat y.toNat) from rfl)
    have hf := Lib.hid hf
    clear hx0 hx1 hy0 hy1
    go_enter Tryd.func12, Tryd.ntmps12
    go_wp2_with (first | (go_at_call 28; refine (r_number_num _ hl hb _).mono ?_; rintro e w1 ⟨rfl, rfl⟩) | simp only [x_from])
    go_ret2
    exact ⟨ret_p (by rw [hv.out, hf.out]; rfl) rfl, Drawn.refl _⟩
theorem r_app13 (x y : Int) (hx0 : 0 ≤ x) (hx1 : x ≤ 18446744073709551615) (hy0 : 0 ≤ y) (hy1 : y ≤ 18446744073709551615) (w : World) :
    Calls Tryd.prog 12 #[.int .i64 13, .int .u64 x, .int .u64 y] w fun e w' => e = .returned (.tuple #[.int .u64 (appV 13 x y), .int .i64 0]) ∧ Drawn w w' := by
  cases hf : floatBits .sub .f64 x.toNat y.toNat with
  | none =>
    obtain ⟨b, hb, hl, hop⟩ := run_float_none .sub (by simp) x.toNat y.toNat hf w
    have hv := Lib.hid (show appV 13 x y = fw (floatBits .sub .f64 x.toNat y.toNat) from rfl)
    have hf := Lib.hid hf
    clear hx0 hx1 hy0 hy1
    go_enter Tryd.func12, Tryd.ntmps12
    go_wp2_with (first | (go_at_call 28; refine (r_number_nan _ hl hb _).mono ?_; rintro e w1 ⟨rfl, rfl⟩) | simp only [x_from])
    go_ret2
    exact ⟨ret_p (by rw [hv.out, hf.out]; rfl) rfl, Drawn.drew _⟩
  | some b =>
    have hb := floatBits_not_nan hf
    have hl : b < 18446744073709551616 := of_decide_eq_true (floatBits_wf hf)
    have hop := fun t => run_float_arith (P := Tryd.prog) w .sub t .f64 x.toNat y.toNat b hf
    have hv := Lib.hid (show appV 13 x y = fw (floatBits .sub .f64 x.toNat y.toNat) from rfl)
    have hf := Lib.hid hf
    clear hx0 hx1 hy0 hy1
    go_enter Tryd.func12, Tryd.ntmps12
    go_wp2_with (first | (go_at_call 28; refine (r_number_num _ hl hb _).mono ?_; rintro e w1 ⟨rfl, rfl⟩) | simp only [x_from])
    go_ret2
    exact ⟨ret_p (by rw [hv.out, hf.out]; rfl) rfl, Drawn.refl _⟩
theorem r_app14 (x y : Int) (hx0 : 0 ≤ x) (hx1 : x ≤ 18446744073709551615) (hy0 : 0 ≤ y) (hy1 : y ≤ 18446744073709551615) (w : World) :
    Calls Tryd.prog 12 #[.int .i64 14, .int .u64 x, .int .u64 y] w fun e w' => e = .returned (.tuple #[.int .u64 (appV 14 x y), .int .i64 0]) ∧ Drawn w w' := by
  cases hf : floatBits .mul .f64 x.toNat y.toNat with
  | none =>
    obtain ⟨b, hb, hl, hop⟩ := run_float_none .mul (by simp) x.toNat y.toNat hf w
    have hv := Lib.hid (show appV 14 x y = fw (floatBits .mul .f64 x.toNat y.toNat) from rfl)
    have hf := Lib.hid hf
    clear hx0 hx1 hy0 hy1
    go_enter Tryd.func12, Tryd.ntmps12
    go_wp2_with (first | (go_at_call 28; refine (r_number_nan _ hl hb _).mono ?_; rintro e w1 ⟨rfl, rfl⟩) | simp only [x_from])
    go_ret2
    exact ⟨ret_p (by rw [hv.out, hf.out]; rfl) rfl, Drawn.drew _⟩
  | some b =>
    have hb := floatBits_not_nan hf
    have hl : b < 18446744073709551616 := of_decide_eq_true (floatBits_wf hf)
    have hop := fun t => run_float_arith (P := Tryd.prog) w .mul t .f64 x.toNat y.toNat b hf
    have hv := Lib.hid (show appV 14 x y = fw (floatBits .mul .f64 x.toNat y.toNat) from rfl)
    have hf := Lib.hid hf
    clear hx0 hx1 hy0 hy1
    go_enter Tryd.func12, Tryd.ntmps12
    go_wp2_with (first | (go_at_call 28; refine (r_number_num _ hl hb _).mono ?_; rintro e w1 ⟨rfl, rfl⟩) | simp only [x_from])
    go_ret2
    exact ⟨ret_p (by rw [hv.out, hf.out]; rfl) rfl, Drawn.refl _⟩
theorem r_app15 (x y : Int) (hx0 : 0 ≤ x) (hx1 : x ≤ 18446744073709551615) (hy0 : 0 ≤ y) (hy1 : y ≤ 18446744073709551615) (w : World) :
    Calls Tryd.prog 12 #[.int .i64 15, .int .u64 x, .int .u64 y] w fun e w' => e = .returned (.tuple #[.int .u64 (appV 15 x y), .int .i64 0]) ∧ Drawn w w' := by
  cases hf : floatBits .quo .f64 x.toNat y.toNat with
  | none =>
    obtain ⟨b, hb, hl, hop⟩ := run_float_none .quo (by simp) x.toNat y.toNat hf w
    have hv := Lib.hid (show appV 15 x y = fw (floatBits .quo .f64 x.toNat y.toNat) from rfl)
    have hf := Lib.hid hf
    clear hx0 hx1 hy0 hy1
    go_enter Tryd.func12, Tryd.ntmps12
    go_wp2_with (first | (go_at_call 28; refine (r_number_nan _ hl hb _).mono ?_; rintro e w1 ⟨rfl, rfl⟩) | simp only [x_from])
    go_ret2
    exact ⟨ret_p (by rw [hv.out, hf.out]; rfl) rfl, Drawn.drew _⟩
  | some b =>
    have hb := floatBits_not_nan hf
    have hl : b < 18446744073709551616 := of_decide_eq_true (floatBits_wf hf)
    have hop := fun t => run_float_arith (P := Tryd.prog) w .quo t .f64 x.toNat y.toNat b hf
    have hv := Lib.hid (show appV 15 x y = fw (floatBits .quo .f64 x.toNat y.toNat) from rfl)
    have hf := Lib.hid hf
    clear hx0 hx1 hy0 hy1
    go_enter Tryd.func12, Tryd.ntmps12
    go_wp2_with (first | (go_at_call 28; refine (r_number_num _ hl hb _).mono ?_; rintro e w1 ⟨rfl, rfl⟩) | simp only [x_from])
    go_ret2
    exact ⟨ret_p (by rw [hv.out, hf.out]; rfl) rfl, Drawn.refl _⟩
theorem r_app16 (x y : Int) (hx0 : 0 ≤ x) (hx1 : x ≤ 18446744073709551615) (hy0 : 0 ≤ y) (hy1 : y ≤ 18446744073709551615) (w : World) :
    Calls Tryd.prog 12 #[.int .i64 16, .int .u64 x, .int .u64 y] w fun e w' => e = .returned (.tuple #[.int .u64 (appV 16 x y), .int .i64 0]) ∧ Drawn w w' := by
  cases nx : nanI x
  · cases ny : nanI y
    cases hf : first x y
    · have hl := fun w => r_least x y y (if_neg (by rw [hf]; simp)) hx0 hx1 hy0 hy1 nx ny w
      have hv := Lib.hid (minV_second x y nx ny hf)
      clear hf
      go_enter Tryd.func12, Tryd.ntmps12
      go_wp2_with (first | (go_at_call 29; (with_reducible refine (r_nan x _ nx hx0 hx1 _).mono ?_); rintro e w1 ⟨rfl, rfl⟩) | (go_at_call 29; (with_reducible refine (r_nan y _ ny hy0 hy1 _).mono ?_); rintro e w1 ⟨rfl, rfl⟩) | (go_at_call 30; refine (hl _).mono ?_; rintro e w1 ⟨rfl, rfl⟩) | simp only [x_from])
      go_ret2
      exact ⟨ret_p hv.out.symm rfl, Drawn.refl _⟩
    · have hl := fun w => r_least x y x (if_pos hf) hx0 hx1 hy0 hy1 nx ny w
      have hv := Lib.hid (minV_first x y nx ny hf)
      clear hf
      go_enter Tryd.func12, Tryd.ntmps12
      go_wp2_with (first | (go_at_call 29; (with_reducible refine (r_nan x _ nx hx0 hx1 _).mono ?_); rintro e w1 ⟨rfl, rfl⟩) | (go_at_call 29; (with_reducible refine (r_nan y _ ny hy0 hy1 _).mono ?_); rintro e w1 ⟨rfl, rfl⟩) | (go_at_call 30; refine (hl _).mono ?_; rintro e w1 ⟨rfl, rfl⟩) | simp only [x_from])
      go_ret2
      exact ⟨ret_p hv.out.symm rfl, Drawn.refl _⟩
    · have hv := Lib.hid (minV_nan x y (.inr ny))
      go_enter Tryd.func12, Tryd.ntmps12
      go_wp2_with (first | (go_at_call 29; (with_reducible refine (r_nan x _ nx hx0 hx1 _).mono ?_); rintro e w1 ⟨rfl, rfl⟩) | (go_at_call 29; (with_reducible refine (r_nan y _ ny hy0 hy1 _).mono ?_); rintro e w1 ⟨rfl, rfl⟩) | simp only [x_from])
      go_ret2
      exact ⟨ret_p hv.out.symm rfl, Drawn.refl _⟩
  · have hv := Lib.hid (minV_nan x y (.inl nx))
    go_enter Tryd.func12, Tryd.ntmps12
    go_wp2_with (first | (go_at_call 29; (with_reducible refine (r_nan x _ nx hx0 hx1 _).mono ?_); rintro e w1 ⟨rfl, rfl⟩) | (go_at_call 29; (with_reducible refine (r_nan y _ ny hy0 hy1 _).mono ?_); rintro e w1 ⟨rfl, rfl⟩) | simp only [x_from])
    go_ret2
    exact ⟨ret_p hv.out.symm rfl, Drawn.refl _⟩
theorem r_app17 (x y : Int) (hx0 : 0 ≤ x) (hx1 : x ≤ 18446744073709551615) (hy0 : 0 ≤ y) (hy1 : y ≤ 18446744073709551615) (w : World) :
    Calls Tryd.prog 12 #[.int .i64 17, .int .u64 x, .int .u64 y] w fun e w' => e = .returned (.tuple #[.int .u64 (appV 17 x y), .int .i64 0]) ∧ Drawn w w' := by
  cases nx : nanI x
  · cases ny : nanI y
    cases hf : first x y
    · have hl := fun w => r_least x y y (if_neg (by rw [hf]; simp)) hx0 hx1 hy0 hy1 nx ny w
      have hx := xor_xor x y hx0 hx1 hy0 hy1
      have hv := Lib.hid (maxV_second x y nx ny hf)
      clear hf
      go_enter Tryd.func12, Tryd.ntmps12
      go_wp2_with (first | (go_at_call 29; (with_reducible refine (r_nan x _ nx hx0 hx1 _).mono ?_); rintro e w1 ⟨rfl, rfl⟩) | (go_at_call 29; (with_reducible refine (r_nan y _ ny hy0 hy1 _).mono ?_); rintro e w1 ⟨rfl, rfl⟩) | (go_at_call 30; refine (hl _).mono ?_; rintro e w1 ⟨rfl, rfl⟩) | simp only [x_from])
      go_ret2
      exact ⟨ret_p hv.out.symm rfl, Drawn.refl _⟩
    · have hl := fun w => r_least x y x (if_pos hf) hx0 hx1 hy0 hy1 nx ny w
      have hx := xor_xor' x y hx0 hx1 hy0 hy1
      have hv := Lib.hid (maxV_first x y nx ny hf)
      clear hf
      go_enter Tryd.func12, Tryd.ntmps12
      go_wp2_with (first | (go_at_call 29; (with_reducible refine (r_nan x _ nx hx0 hx1 _).mono ?_); rintro e w1 ⟨rfl, rfl⟩) | (go_at_call 29; (with_reducible refine (r_nan y _ ny hy0 hy1 _).mono ?_); rintro e w1 ⟨rfl, rfl⟩) | (go_at_call 30; refine (hl _).mono ?_; rintro e w1 ⟨rfl, rfl⟩) | simp only [x_from])
      go_ret2
      exact ⟨ret_p hv.out.symm rfl, Drawn.refl _⟩
    · have hv := Lib.hid (maxV_nan x y (.inr ny))
      go_enter Tryd.func12, Tryd.ntmps12
      go_wp2_with (first | (go_at_call 29; (with_reducible refine (r_nan x _ nx hx0 hx1 _).mono ?_); rintro e w1 ⟨rfl, rfl⟩) | (go_at_call 29; (with_reducible refine (r_nan y _ ny hy0 hy1 _).mono ?_); rintro e w1 ⟨rfl, rfl⟩) | simp only [x_from])
      go_ret2
      exact ⟨ret_p hv.out.symm rfl, Drawn.refl _⟩
  · have hv := Lib.hid (maxV_nan x y (.inl nx))
    go_enter Tryd.func12, Tryd.ntmps12
    go_wp2_with (first | (go_at_call 29; (with_reducible refine (r_nan x _ nx hx0 hx1 _).mono ?_); rintro e w1 ⟨rfl, rfl⟩) | (go_at_call 29; (with_reducible refine (r_nan y _ ny hy0 hy1 _).mono ?_); rintro e w1 ⟨rfl, rfl⟩) | simp only [x_from])
    go_ret2
    exact ⟨ret_p hv.out.symm rfl, Drawn.refl _⟩
theorem r_app18 (x y : Int) (hx0 : 0 ≤ x) (hx1 : x ≤ 18446744073709551615) (hy0 : 0 ≤ y) (hy1 : y ≤ 18446744073709551615) (w : World) :
    Calls Tryd.prog 12 #[.int .i64 18, .int .u64 x, .int .u64 y] w fun e w' => e = .returned (.tuple #[.int .u64 (appV 18 x y), .int .i64 0]) ∧ Drawn w w' := by
  cases ord x y hx0 hx1 hy0 hy1 with
  | none h e =>
    have hv := Lib.hid (eqV_nan x y h)
    clear h
    go_enter Tryd.func12, Tryd.ntmps12
    go_wp2_with (first | (go_at_call 27; refine (r_truth _ _).mono ?_; rintro e w1 ⟨rfl, rfl⟩) | simp only [x_from])
    go_ret2
    exact ⟨ret_p (by show _ = tr (eqV x y); rw [hv.out]) rfl, Drawn.refl _⟩
  | lt nx ny h e =>
    have hv : Hid (eqV x y = false) := Lib.hid (by rw [eqV_num x y nx ny]; simp; omega)
    clear h
    go_enter Tryd.func12, Tryd.ntmps12
    go_wp2_with (first | (go_at_call 27; refine (r_truth _ _).mono ?_; rintro e w1 ⟨rfl, rfl⟩) | simp only [x_from])
    go_ret2
    exact ⟨ret_p (by show _ = tr (eqV x y); rw [hv.out]) rfl, Drawn.refl _⟩
  | eq nx ny h e =>
    have hv : Hid (eqV x y = true) := Lib.hid (by rw [eqV_num x y nx ny]; simp; omega)
    clear h
    go_enter Tryd.func12, Tryd.ntmps12
    go_wp2_with (first | (go_at_call 27; refine (r_truth _ _).mono ?_; rintro e w1 ⟨rfl, rfl⟩) | simp only [x_from])
    go_ret2
    exact ⟨ret_p (by show _ = tr (eqV x y); rw [hv.out]) rfl, Drawn.refl _⟩
  | gt nx ny h e =>
    have hv : Hid (eqV x y = false) := Lib.hid (by rw [eqV_num x y nx ny]; simp; omega)
    clear h
    go_enter Tryd.func12, Tryd.ntmps12
    go_wp2_with (first | (go_at_call 27; refine (r_truth _ _).mono ?_; rintro e w1 ⟨rfl, rfl⟩) | simp only [x_from])
    go_ret2
    exact ⟨ret_p (by show _ = tr (eqV x y); rw [hv.out]) rfl, Drawn.refl _⟩
theorem r_app19 (x y : Int) (hx0 : 0 ≤ x) (hx1 : x ≤ 18446744073709551615) (hy0 : 0 ≤ y) (hy1 : y ≤ 18446744073709551615) (w : World) :
    Calls Tryd.prog 12 #[.int .i64 19, .int .u64 x, .int .u64 y] w fun e w' => e = .returned (.tuple #[.int .u64 (appV 19 x y), .int .i64 0]) ∧ Drawn w w' := by
  cases ord x y hx0 hx1 hy0 hy1 with
  | none h e =>
    have hv := Lib.hid (ltV_nan x y h)
    clear h
    go_enter Tryd.func12, Tryd.ntmps12
    go_wp2_with (first | (go_at_call 27; refine (r_truth _ _).mono ?_; rintro e w1 ⟨rfl, rfl⟩) | simp only [x_from])
    go_ret2
    exact ⟨ret_p (by show _ = tr (ltV x y); rw [hv.out]) rfl, Drawn.refl _⟩
  | lt nx ny h e =>
    have hv : Hid (ltV x y = true) := Lib.hid (by rw [ltV_num x y nx ny]; simp; omega)
    clear h
    go_enter Tryd.func12, Tryd.ntmps12
    go_wp2_with (first | (go_at_call 27; refine (r_truth _ _).mono ?_; rintro e w1 ⟨rfl, rfl⟩) | simp only [x_from])
    go_ret2
    exact ⟨ret_p (by show _ = tr (ltV x y); rw [hv.out]) rfl, Drawn.refl _⟩
  | eq nx ny h e =>
    have hv : Hid (ltV x y = false) := Lib.hid (by rw [ltV_num x y nx ny]; simp; omega)
    clear h
    go_enter Tryd.func12, Tryd.ntmps12
    go_wp2_with (first | (go_at_call 27; refine (r_truth _ _).mono ?_; rintro e w1 ⟨rfl, rfl⟩) | simp only [x_from])
    go_ret2
    exact ⟨ret_p (by show _ = tr (ltV x y); rw [hv.out]) rfl, Drawn.refl _⟩
  | gt nx ny h e =>
    have hv : Hid (ltV x y = false) := Lib.hid (by rw [ltV_num x y nx ny]; simp; omega)
    clear h
    go_enter Tryd.func12, Tryd.ntmps12
    go_wp2_with (first | (go_at_call 27; refine (r_truth _ _).mono ?_; rintro e w1 ⟨rfl, rfl⟩) | simp only [x_from])
    go_ret2
    exact ⟨ret_p (by show _ = tr (ltV x y); rw [hv.out]) rfl, Drawn.refl _⟩
theorem r_app20 (x y : Int) (hx0 : 0 ≤ x) (hx1 : x ≤ 18446744073709551615) (hy0 : 0 ≤ y) (hy1 : y ≤ 18446744073709551615) (w : World) :
    Calls Tryd.prog 12 #[.int .i64 20, .int .u64 x, .int .u64 y] w fun e w' => e = .returned (.tuple #[.int .u64 (appV 20 x y), .int .i64 0]) ∧ Drawn w w' := by
  clear hx0 hx1 hy0 hy1
  go_enter Tryd.func12, Tryd.ntmps12
  go_wp2_with (first | simp only [x_bits] | simp only [x_from])
  go_ret2
  exact ⟨rfl, Drawn.refl _⟩
theorem r_app21 (x y : Int) (hx0 : 0 ≤ x) (hx1 : x ≤ 18446744073709551615) (hy0 : 0 ≤ y) (hy1 : y ≤ 18446744073709551615) (w : World) :
    Calls Tryd.prog 12 #[.int .i64 21, .int .u64 x, .int .u64 y] w fun e w' => e = .returned (.tuple #[.int .u64 (appV 21 x y), .int .i64 0]) ∧ Drawn w w' := by
  go_enter Tryd.func12, Tryd.ntmps12
  go_wp2_with (first | (go_at_call 32; refine (r_integer x hx0 hx1 _).mono ?_; rintro e w1 ⟨rfl, rfl⟩) | simp only [x_from])
  go_ret2
  exact ⟨rfl, Drawn.refl _⟩
theorem r_app_no (fn x y : Int) (h : fn < 0 ∨ 22 ≤ fn) (w : World) :
    Calls Tryd.prog 12 #[.int .i64 fn, .int .u64 x, .int .u64 y] w fun e w' => e = .returned (.tuple #[.int .u64 0, .int .i64 10]) ∧ Drawn w w' := by
  have n0 : (fn == 0) = false := by rw [beq_eq_false_iff_ne]; omega
  have n1 : (fn == 1) = false := by rw [beq_eq_false_iff_ne]; omega
  have n2 : (fn == 2) = false := by rw [beq_eq_false_iff_ne]; omega
  have n3 : (fn == 3) = false := by rw [beq_eq_false_iff_ne]; omega
  have n4 : (fn == 4) = false := by rw [beq_eq_false_iff_ne]; omega
  have n5 : (fn == 5) = false := by rw [beq_eq_false_iff_ne]; omega
  have n6 : (fn == 6) = false := by rw [beq_eq_false_iff_ne]; omega
  have n7 : (fn == 7) = false := by rw [beq_eq_false_iff_ne]; omega
  have n8 : (fn == 8) = false := by rw [beq_eq_false_iff_ne]; omega
  have n9 : (fn == 9) = false := by rw [beq_eq_false_iff_ne]; omega
  have n10 : (fn == 10) = false := by rw [beq_eq_false_iff_ne]; omega
  have n11 : (fn == 11) = false := by rw [beq_eq_false_iff_ne]; omega
  have n12 : (fn == 12) = false := by rw [beq_eq_false_iff_ne]; omega
  have n13 : (fn == 13) = false := by rw [beq_eq_false_iff_ne]; omega
  have n14 : (fn == 14) = false := by rw [beq_eq_false_iff_ne]; omega
  have n15 : (fn == 15) = false := by rw [beq_eq_false_iff_ne]; omega
  have n16 : (fn == 16) = false := by rw [beq_eq_false_iff_ne]; omega
  have n17 : (fn == 17) = false := by rw [beq_eq_false_iff_ne]; omega
  have n18 : (fn == 18) = false := by rw [beq_eq_false_iff_ne]; omega
  have n19 : (fn == 19) = false := by rw [beq_eq_false_iff_ne]; omega
  have n20 : (fn == 20) = false := by rw [beq_eq_false_iff_ne]; omega
  have n21 : (fn == 21) = false := by rw [beq_eq_false_iff_ne]; omega
  clear h
  go_enter Tryd.func12, Tryd.ntmps12
  go_wp2_with (simp only [x_from])
  go_ret2
  exact ⟨rfl, Drawn.refl _⟩
/-- Whatever the number of the function: the word and the error of the document. -/
theorem r_apply (fn x y : Int) (hx0 : 0 ≤ x) (hx1 : x ≤ 18446744073709551615) (hy0 : 0 ≤ y) (hy1 : y ≤ 18446744073709551615) (w : World) :
    Calls Tryd.prog 12 #[.int .i64 fn, .int .u64 x, .int .u64 y] w fun e w' => e = .returned (.tuple #[.int .u64 (appV fn x y), .int .i64 (appE fn)]) ∧ Drawn w w' := by
  by_cases h : 0 ≤ fn ∧ fn < 22
  · have he : appE fn = 0 := if_pos h
    rw [he]
    have hc : fn = 0 ∨ fn = 1 ∨ fn = 2 ∨ fn = 3 ∨ fn = 4 ∨ fn = 5 ∨ fn = 6 ∨ fn = 7 ∨ fn = 8 ∨ fn = 9 ∨ fn = 10 ∨ fn = 11 ∨ fn = 12 ∨ fn = 13 ∨ fn = 14 ∨ fn = 15 ∨ fn = 16 ∨ fn = 17 ∨ fn = 18 ∨ fn = 19 ∨ fn = 20 ∨ fn = 21 := by omega
    rcases hc with rfl | rfl | rfl | rfl | rfl | rfl | rfl | rfl | rfl | rfl | rfl | rfl | rfl | rfl | rfl | rfl | rfl | rfl | rfl | rfl | rfl | rfl
    · exact r_app0 x y hx0 hx1 hy0 hy1 w
    · exact r_app1 x y hx0 hx1 hy0 hy1 w
    · exact r_app2 x y hx0 hx1 hy0 hy1 w
    · exact r_app3 x y hx0 hx1 hy0 hy1 w
    · exact r_app4 x y hx0 hx1 hy0 hy1 w
    · exact r_app5 x y hx0 hx1 hy0 hy1 w
    · exact r_app6 x y hx0 hx1 hy0 hy1 w
    · exact r_app7 x y hx0 hx1 hy0 hy1 w
    · exact r_app8 x y hx0 hx1 hy0 hy1 w
    · exact r_app9 x y hx0 hx1 hy0 hy1 w
    · exact r_app10 x y hx0 hx1 hy0 hy1 w
    · exact r_app11 x y hx0 hx1 hy0 hy1 w
    · exact r_app12 x y hx0 hx1 hy0 hy1 w
    · exact r_app13 x y hx0 hx1 hy0 hy1 w
    · exact r_app14 x y hx0 hx1 hy0 hy1 w
    · exact r_app15 x y hx0 hx1 hy0 hy1 w
    · exact r_app16 x y hx0 hx1 hy0 hy1 w
    · exact r_app17 x y hx0 hx1 hy0 hy1 w
    · exact r_app18 x y hx0 hx1 hy0 hy1 w
    · exact r_app19 x y hx0 hx1 hy0 hy1 w
    · exact r_app20 x y hx0 hx1 hy0 hy1 w
    · exact r_app21 x y hx0 hx1 hy0 hy1 w
  · have he : appE fn = 10 := if_neg h
    have hv : appV fn x y = 0 := by
      unfold appV
      rw [if_neg (by omega), if_neg (by omega), if_neg (by omega), if_neg (by omega), if_neg (by omega), if_neg (by omega), if_neg (by omega), if_neg (by omega), if_neg (by omega), if_neg (by omega), if_neg (by omega), if_neg (by omega), if_neg (by omega), if_neg (by omega), if_neg (by omega), if_neg (by omega), if_neg (by omega), if_neg (by omega), if_neg (by omega), if_neg (by omega), if_neg (by omega), if_neg (by omega)]
    rw [he, hv]
    exact r_app_no fn x y (by omega) w
end Go.Proofs.YtkboeeakilhbhaaDoor.AluC
