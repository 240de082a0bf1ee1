/-
  On words of 64 bits as binary64 numbers: which are NaNs, how two are ordered (as their signed rungs are), that sums and products don't depend on the order of the operands, that no operation writes a NaN.
-/
import Derived.WalkLawsBesides
namespace Go.Proofs.YtkboeeakilhbhaaDoor.Flt
open Ieee

/-- The word is a NaN: its rung lies beyond that of infinity. -/
def nan (x : Nat) : Bool := decide (9218868437227405312 < x % 9223372036854775808)
/-- The rung with the word's sign. -/
def key (x : Nat) : Int := if 9223372036854775808 ≤ x then -((x % 9223372036854775808 : Nat) : Int) else ((x % 9223372036854775808 : Nat) : Int)

theorem sw : double.signWeight = 9223372036854775808 := by decide
theorem bi : double.binade = 4503599627370496 := by decide
theorem ir : double.infRung = 9218868437227405312 := by decide
theorem lp : double.leastPlace = -1074 := by decide

/-- The magnitude of a rung, in units of 2 ^ -1074. -/
def mag (r : Nat) : Nat := if r < 4503599627370496 then r else (4503599627370496 + r % 4503599627370496) * 2 ^ (r / 4503599627370496 - 1)

theorem mag_succ (r : Nat) : mag r < mag (r + 1) := by
  unfold mag
  by_cases h : r + 1 < 4503599627370496
  · rw [if_pos h, if_pos (by omega)]; omega
  · rw [if_neg h]
    by_cases h0 : r < 4503599627370496
    · obtain rfl : r = 4503599627370495 := by omega
      decide
    · rw [if_neg h0]
      by_cases hp : r % 4503599627370496 + 1 < 4503599627370496
      · have e1 : (r + 1) % 4503599627370496 = r % 4503599627370496 + 1 := by omega
        have e2 : (r + 1) / 4503599627370496 = r / 4503599627370496 := by omega
        rw [e1, e2]
        have := Nat.two_pow_pos (r / 4503599627370496 - 1)
        exact Nat.mul_lt_mul_of_pos_right (by omega) this
      · have e1 : (r + 1) % 4503599627370496 = 0 := by omega
        have e2 : (r + 1) / 4503599627370496 - 1 = (r / 4503599627370496 - 1) + 1 := by omega
        rw [e1, e2, Nat.pow_succ]
        have := Nat.two_pow_pos (r / 4503599627370496 - 1)
        generalize 2 ^ (r / 4503599627370496 - 1) = p at this
        have : (4503599627370496 + r % 4503599627370496) * p < 9007199254740992 * p := Nat.mul_lt_mul_of_pos_right (by omega) this
        omega

theorem mag_lt {a b : Nat} (h : a < b) : mag a < mag b := by
  induction b with
  | zero => omega
  | succ b ih =>
    have := mag_succ b
    by_cases e : a = b
    · subst e; exact this
    · exact Nat.lt_trans (ih (by omega)) this

theorem mag_zero : mag 0 = 0 := rfl

/-- What a word that is no NaN and no infinity reads as. -/
theorem read_number (x : Nat) (h : x % 9223372036854775808 < 9218868437227405312) :
    ∃ (m : Nat) (i : Nat), double.read x = .number (x / 9223372036854775808 % 2 == 1) m ((i : Int) - 1074) ∧ m * 2 ^ i = mag (x % 9223372036854775808) ∧ m < 9007199254740992 := by
  unfold Format.read
  simp only [sw, bi, ir, lp]
  by_cases h0 : x % 9223372036854775808 < 4503599627370496
  · refine ⟨x % 9223372036854775808, 0, ?_, ?_, by omega⟩
    · rw [if_pos h0]; rfl
    · unfold mag; rw [if_pos h0]; simp
  · refine ⟨4503599627370496 + x % 9223372036854775808 % 4503599627370496, x % 9223372036854775808 / 4503599627370496 - 1, ?_, ?_, by omega⟩
    · rw [if_neg h0, if_pos h]; congr 1
    · unfold mag; rw [if_neg h0]

theorem read_inf (x : Nat) (h : x % 9223372036854775808 = 9218868437227405312) : double.read x = .infinity (x / 9223372036854775808 % 2 == 1) := by
  unfold Format.read
  simp only [sw, bi, ir, lp, h]
  rfl

theorem read_nan (x : Nat) (h : nan x = true) : ∃ s t, double.read x = .nan s t := by
  unfold nan at h
  have h := of_decide_eq_true h
  unfold Format.read
  simp only [sw, bi, ir, lp]
  rw [if_neg (by omega), if_neg (by omega), if_neg (by omega)]
  exact ⟨_, _, rfl⟩

theorem signed_eq (s : Bool) (m i : Nat) : signed s m i = if s then -((m * 2 ^ i : Nat) : Int) else ((m * 2 ^ i : Nat) : Int) := by
  unfold signed
  rw [Nat.shiftLeft_eq]

theorem cmp_congr {a b c d : Int} (h1 : a < b ↔ c < d) (h2 : b < a ↔ d < c) : compare a b = compare c d := by
  rcases Int.lt_trichotomy a b with h | h | h
  · rw [Std.compare_eq_lt.2 h, Std.compare_eq_lt.2 (h1.1 h)]
  · subst h
    have : c = d := by
      have a1 : ¬ c < d := fun h => Int.lt_irrefl _ (h1.2 h)
      have a2 : ¬ d < c := fun h => Int.lt_irrefl _ (h2.2 h)
      omega
    subst this
    simp
  · rw [Std.compare_eq_gt.2 h, Std.compare_eq_gt.2 (h2.1 h)]

/-- Two numbers at places of their own compare as their magnitudes in units of 2 ^ -1074. -/
theorem cmp_signed (s t : Bool) (m n i j : Nat) :
    compare (signed s m ((i : Int) - 1074 - min ((i : Int) - 1074) ((j : Int) - 1074)).toNat) (signed t n ((j : Int) - 1074 - min ((i : Int) - 1074) ((j : Int) - 1074)).toNat)
      = compare (if s then -((m * 2 ^ i : Nat) : Int) else ((m * 2 ^ i : Nat) : Int)) (if t then -((n * 2 ^ j : Nat) : Int) else ((n * 2 ^ j : Nat) : Int)) := by
  rw [signed_eq, signed_eq]
  have key : ∀ (a b c : Nat), i = a + c → j = b + c →
      compare (if s then -((m * 2 ^ a : Nat) : Int) else ((m * 2 ^ a : Nat) : Int)) (if t then -((n * 2 ^ b : Nat) : Int) else ((n * 2 ^ b : Nat) : Int))
      = compare (if s then -((m * 2 ^ i : Nat) : Int) else ((m * 2 ^ i : Nat) : Int)) (if t then -((n * 2 ^ j : Nat) : Int) else ((n * 2 ^ j : Nat) : Int)) := by
    intro a b c ha hb
    subst ha hb
    rw [Nat.pow_add, Nat.pow_add, ← Nat.mul_assoc, ← Nat.mul_assoc]
    have hc : 0 < 2 ^ c := Nat.two_pow_pos c
    generalize m * 2 ^ a = X
    generalize n * 2 ^ b = Y
    generalize 2 ^ c = C at hc
    have hC : (0 : Int) < (C : Int) := by omega
    have mono : ∀ p q : Int, p < q ↔ p * C < q * C := fun p q => ⟨fun h => Int.mul_lt_mul_of_pos_right h hC, fun h => Int.lt_of_mul_lt_mul_right h (Int.le_of_lt hC)⟩
    have es : (if s then -((X * C : Nat) : Int) else ((X * C : Nat) : Int)) = (if s then -(X : Int) else (X : Int)) * C := by
      cases s <;> simp [Int.neg_mul]
    have et : (if t then -((Y * C : Nat) : Int) else ((Y * C : Nat) : Int)) = (if t then -(Y : Int) else (Y : Int)) * C := by
      cases t <;> simp [Int.neg_mul]
    rw [es, et]
    exact cmp_congr (mono _ _) (mono _ _)
  by_cases h : i ≤ j
  · have e1 : ((i : Int) - 1074 - min ((i : Int) - 1074) ((j : Int) - 1074)).toNat = 0 := by omega
    have e2 : ((j : Int) - 1074 - min ((i : Int) - 1074) ((j : Int) - 1074)).toNat = j - i := by omega
    rw [e1, e2]
    exact key 0 (j - i) i (by omega) (by omega)
  · have e1 : ((i : Int) - 1074 - min ((i : Int) - 1074) ((j : Int) - 1074)).toNat = i - j := by omega
    have e2 : ((j : Int) - 1074 - min ((i : Int) - 1074) ((j : Int) - 1074)).toNat = 0 := by omega
    rw [e1, e2]
    exact key (i - j) 0 j (by omega) (by omega)

theorem mag_iff (a b : Nat) : mag a < mag b ↔ a < b :=
  ⟨fun h => by
    by_cases hab : a < b
    · exact hab
    · exfalso
      rcases Nat.lt_or_eq_of_le (Nat.le_of_not_lt hab) with h1 | h1
      · exact absurd (mag_lt h1) (by omega)
      · subst h1; omega, mag_lt⟩
theorem mag_pos {a : Nat} (h : 0 < a) : 0 < mag a := by have := mag_lt h; rwa [mag_zero] at this

theorem sgn (x : Nat) (hx : x < 18446744073709551616) : (x / 9223372036854775808 % 2 == 1) = decide (9223372036854775808 ≤ x) := by
  rw [Bool.eq_iff_iff]; simp; omega

/-- Words that are no NaNs are ordered as their signed rungs. -/
theorem order_key (x y : Nat) (hx : x < 18446744073709551616) (hy : y < 18446744073709551616) (nx : nan x = false) (ny : nan y = false) :
    double.order x y = some (compare (key x) (key y)) := by
  have nx' := of_decide_eq_false nx
  have ny' := of_decide_eq_false ny
  unfold Format.order
  by_cases ix : x % 9223372036854775808 = 9218868437227405312
  · by_cases iy : y % 9223372036854775808 = 9218868437227405312
    · rw [read_inf x ix, read_inf y iy, sgn x hx, sgn y hy]
      unfold key Datum.order
      rw [ix, iy]
      by_cases sx : 9223372036854775808 ≤ x <;> by_cases sy : 9223372036854775808 ≤ y <;> simp [sx, sy] <;> decide
    · obtain ⟨n, j, ey, ej, _⟩ := read_number y (by omega)
      rw [read_inf x ix, ey, sgn x hx]
      unfold key Datum.order
      rw [ix]
      by_cases sx : 9223372036854775808 ≤ x
      · simp only [sx, if_true, decide_true]
        rw [Std.compare_eq_lt.2 (by split <;> omega)]
      · simp only [sx, if_false, decide_false]
        rw [Std.compare_eq_gt.2 (by split <;> omega)]
        rfl
  · obtain ⟨m, i, ex, ei, _⟩ := read_number x (by omega)
    by_cases iy : y % 9223372036854775808 = 9218868437227405312
    · rw [read_inf y iy, ex, sgn y hy]
      unfold key Datum.order
      rw [iy]
      by_cases sy : 9223372036854775808 ≤ y
      · simp only [sy, if_true, decide_true]
        rw [Std.compare_eq_gt.2 (by split <;> omega)]
      · simp only [sy, if_false, decide_false]
        rw [Std.compare_eq_lt.2 (by split <;> omega)]
        rfl
    · obtain ⟨n, j, ey, ej, _⟩ := read_number y (by omega)
      rw [ex, ey, sgn x hx, sgn y hy]
      simp only [Datum.order]
      rw [cmp_signed, ei, ej]
      congr 1
      unfold key
      simp only [decide_eq_true_eq]
      have p1 := mag_iff (x % 9223372036854775808) (y % 9223372036854775808)
      have p2 := mag_iff (y % 9223372036854775808) (x % 9223372036854775808)
      have p3 := @mag_pos (x % 9223372036854775808)
      have p4 := @mag_pos (y % 9223372036854775808)
      have p5 : x % 9223372036854775808 = 0 → mag (x % 9223372036854775808) = 0 := fun h => by rw [h]; rfl
      have p6 : y % 9223372036854775808 = 0 → mag (y % 9223372036854775808) = 0 := fun h => by rw [h]; rfl
      generalize mag (x % 9223372036854775808) = X at *
      generalize mag (y % 9223372036854775808) = Y at *
      generalize x % 9223372036854775808 = a at *
      generalize y % 9223372036854775808 = b at *
      refine cmp_congr ?_ ?_ <;> (split <;> split <;> omega)

theorem order_nan_left (x y : Nat) (h : nan x = true) : double.order x y = none := by
  obtain ⟨s, t, e⟩ := read_nan x h
  unfold Format.order Datum.order
  rw [e]
theorem order_nan_right (x y : Nat) (h : nan y = true) : double.order x y = none := by
  obtain ⟨s, t, e⟩ := read_nan y h
  unfold Format.order Datum.order
  rw [e]
  cases double.read x <;> rfl

/-! ### The operations. -/
theorem sum_comm (d e : Datum) : d.sum e = e.sum d := by
  cases d <;> cases e <;> simp only [Datum.sum]
  · rename_i s m i t n j
    rw [Int.min_comm j i, Int.add_comm (signed t n _), Bool.and_comm t s]
  · rename_i s t
    by_cases h : s = t
    · subst h; rfl
    · rw [if_neg h, if_neg (fun e => h e.symm)]

theorem product_comm (d e : Datum) : d.product e = e.product d := by
  cases d <;> cases e <;> simp only [Datum.product]
  · rename_i s m i t n j
    rw [Bool.xor_comm s t, Nat.mul_comm m n, Int.add_comm i j]
  · rename_i s t
    rw [Bool.xor_comm]

theorem add_comm (x y : Nat) : double.add x y = double.add y x := by unfold Format.add; rw [sum_comm]
theorem mul_comm (x y : Nat) : double.mul x y = double.mul y x := by unfold Format.mul; rw [product_comm]

theorem word_not_nan (neg : Bool) (r : Nat) (h : r ≤ 9218868437227405312) : nan (double.word neg r) = false := by
  unfold nan Format.word
  rw [sw]
  refine decide_eq_false ?_
  split <;> omega

theorem nearest_not_nan (neg : Bool) (m : Nat) (i : Int) : nan (double.nearest neg m i) = false := by
  unfold Format.nearest
  dsimp only
  split
  · exact word_not_nan _ _ (by omega)
  · exact word_not_nan _ _ (by rw [ir]; exact Nat.min_le_right _ _)

theorem write_not_nan (d : Datum) (h : d.isNaN = false) : nan (double.write d) = false := by
  cases d with
  | number s m i => exact nearest_not_nan s m i
  | infinity s => exact word_not_nan _ _ (by rw [ir]; omega)
  | nan s t => cases h

theorem sum_not_nan {d e z : Datum} (h : d.sum e = some z) : z.isNaN = false := by
  cases d <;> cases e <;> simp only [Datum.sum] at h <;> (try split at h) <;> (try cases h) <;> rfl
theorem product_not_nan {d e z : Datum} (h : d.product e = some z) : z.isNaN = false := by
  cases d <;> cases e <;> simp only [Datum.product] at h <;> (try split at h) <;> (try cases h) <;> rfl
theorem quotient_not_nan {k : Nat} {d e z : Datum} (h : d.quotient k e = some z) : z.isNaN = false := by
  cases d <;> cases e <;> simp only [Datum.quotient] at h <;> (try split at h) <;> (try split at h) <;> (try cases h) <;> rfl

theorem floatBits_not_nan {op : BinOp} {x y r : Nat} (h : floatBits op .f64 x y = some r) : nan r = false := by
  have e : FloatKind.f64.format = double := rfl
  unfold floatBits at h
  rw [e] at h
  split at h
  · unfold Format.add at h
    obtain ⟨z, hz, rfl⟩ := Option.map_eq_some_iff.1 h
    exact write_not_nan z (sum_not_nan hz)
  · unfold Format.sub at h
    obtain ⟨z, hz, rfl⟩ := Option.map_eq_some_iff.1 h
    exact write_not_nan z (sum_not_nan hz)
  · unfold Format.mul at h
    obtain ⟨z, hz, rfl⟩ := Option.map_eq_some_iff.1 h
    exact write_not_nan z (product_not_nan hz)
  · unfold Format.div at h
    obtain ⟨z, hz, rfl⟩ := Option.map_eq_some_iff.1 h
    exact write_not_nan z (quotient_not_nan hz)
  · cases h

theorem sum_nan_left (s : Bool) (t : Nat) (e : Datum) : (Datum.nan s t).sum e = none := by cases e <;> rfl
theorem sum_nan_right (s : Bool) (t : Nat) (e : Datum) : e.sum (Datum.nan s t) = none := by cases e <;> rfl
theorem product_nan_left (s : Bool) (t : Nat) (e : Datum) : (Datum.nan s t).product e = none := by cases e <;> rfl
theorem product_nan_right (s : Bool) (t : Nat) (e : Datum) : e.product (Datum.nan s t) = none := by cases e <;> rfl
theorem quotient_nan_left (k : Nat) (s : Bool) (t : Nat) (e : Datum) : (Datum.nan s t).quotient k e = none := by cases e <;> rfl
theorem quotient_nan_right (k : Nat) (s : Bool) (t : Nat) (e : Datum) : e.quotient k (Datum.nan s t) = none := by cases e <;> rfl

/-- A NaN among the operands: the operation is invalid. -/
theorem floatBits_nan (op : BinOp) (x y : Nat) (h : nan x = true ∨ nan y = true) : floatBits op .f64 x y = none := by
  have e : FloatKind.f64.format = double := rfl
  unfold floatBits
  rw [e]
  rcases h with h | h
  · obtain ⟨s, t, er⟩ := read_nan x h
    split
    · unfold Format.add; rw [er, sum_nan_left]; rfl
    · unfold Format.sub; rw [er, sum_nan_left]; rfl
    · unfold Format.mul; rw [er, product_nan_left]; rfl
    · unfold Format.div; rw [er, quotient_nan_left]; rfl
    · rfl
  · obtain ⟨s, t, er⟩ := read_nan y h
    split
    · unfold Format.add; rw [er, sum_nan_right]; rfl
    · unfold Format.sub; rw [er]; simp only [Datum.opposite]; rw [sum_nan_right]; rfl
    · unfold Format.mul; rw [er, product_nan_right]; rfl
    · unfold Format.div; rw [er, quotient_nan_right]; rfl
    · rfl

/-! ### Integers and floats. -/
theorem cut_zero (s : Bool) (n drop : Nat) : Toward.zero.cut s n drop = n / 2 ^ min drop (n.log2 + 2) := by
  unfold Toward.cut
  simp [Nat.shiftLeft_eq]

theorem mag_top (a : Nat) (ha : a = 1085) : mag 4890909195324358656 = 4503599627370496 * 2 ^ a := by
  unfold mag
  have e1 : 4890909195324358656 / 4503599627370496 - 1 = a := by omega
  have e2 : 4503599627370496 + 4890909195324358656 % 4503599627370496 = 4503599627370496 := by omega
  rw [if_neg (by omega), e1, e2]

theorem two_pows (a b : Nat) (ha : a = 1085) (hb : b = 1074) : (4503599627370496 : Nat) * 2 ^ a = 9223372036854775808 * 2 ^ b := by
  have e : a = 11 + b := by omega
  rw [e, Nat.pow_add, ← Nat.mul_assoc]

theorem toInt_number (s : Bool) (m : Nat) (p : Int) : (Datum.number s m p).toInt .zero = some (if s then -((Toward.zero.cut s (m <<< p.toNat) (-p).toNat : Nat) : Int) else ((Toward.zero.cut s (m <<< p.toNat) (-p).toNat : Nat) : Int)) := by
  unfold Datum.toInt Datum.integral
  simp only [signed_eq, Nat.pow_zero, Nat.mul_one]

/-- A float from -2^63 up to below 2^63 is a signed integer without its fraction. -/
theorem to_range (x : Nat) (hx : x < 18446744073709551616) (h1 : key x < 4890909195324358656) (h2 : -4890909195324358656 ≤ key x) :
    ∃ n : Int, (double.read x).toInt .zero = some n ∧ -9223372036854775808 ≤ n ∧ n ≤ 9223372036854775807 := by
  have hr : x % 9223372036854775808 ≤ 4890909195324358656 := by unfold key at h1 h2; split at h1 <;> omega
  obtain ⟨m, i, ex, ei, hm⟩ := read_number x (by omega)
  rw [ex, toInt_number]
  refine ⟨_, rfl, ?_⟩
  obtain ⟨a, ha⟩ : ∃ a : Nat, a = 1085 := ⟨_, rfl⟩
  obtain ⟨b, hb⟩ : ∃ b : Nat, b = 1074 := ⟨_, rfl⟩
  have hc : ∀ s : Bool, (x % 9223372036854775808 < 4890909195324358656 → Toward.zero.cut s (m <<< ((i : Int) - 1074).toNat) (-((i : Int) - 1074)).toNat < 9223372036854775808) ∧
      Toward.zero.cut s (m <<< ((i : Int) - 1074).toNat) (-((i : Int) - 1074)).toNat ≤ 9223372036854775808 := by
    intro s
    rw [cut_zero, Nat.shiftLeft_eq]
    by_cases hi : 1074 ≤ i
    · have e1 : ((i : Int) - 1074).toNat = i - 1074 := by omega
      have e2 : (-((i : Int) - 1074)).toNat = 0 := by omega
      rw [e1, e2, Nat.zero_min, Nat.pow_zero, Nat.div_one]
      have hM : m * 2 ^ (i - 1074) * 2 ^ b = mag (x % 9223372036854775808) := by
        rw [Nat.mul_assoc, ← Nat.pow_add, show i - 1074 + b = i by omega]; exact ei
      have hT := two_pows a b ha hb
      have hp : 0 < 2 ^ b := Nat.two_pow_pos _
      generalize m * 2 ^ (i - 1074) = c at hM
      generalize 2 ^ b = P at hp hM hT
      constructor
      · intro hlt
        have := mag_lt hlt
        rw [mag_top a ha, hT, ← hM] at this
        exact Nat.lt_of_mul_lt_mul_right this
      · have : mag (x % 9223372036854775808) ≤ mag 4890909195324358656 := by
          rcases Nat.lt_or_eq_of_le hr with h | h
          · exact Nat.le_of_lt (mag_lt h)
          · rw [h]; exact Nat.le_refl _
        rw [mag_top a ha, hT, ← hM] at this
        exact Nat.le_of_mul_le_mul_right this hp
    · have e1 : ((i : Int) - 1074).toNat = 0 := by omega
      rw [e1, Nat.pow_zero, Nat.mul_one]
      have := Nat.div_le_self m (2 ^ min (-((i : Int) - 1074)).toNat (m.log2 + 2))
      omega
  have hc1 := hc (x / 9223372036854775808 % 2 == 1)
  rw [sgn x hx] at *
  by_cases hs : 9223372036854775808 ≤ x
  · simp only [hs, decide_true, if_true] at hc1 ⊢
    omega
  · simp only [hs, decide_false] at hc1 ⊢
    have : x % 9223372036854775808 < 4890909195324358656 := by unfold key at h1; rw [if_neg hs] at h1; omega
    have := hc1.1 this
    simp only [Bool.false_eq_true, if_false]
    omega

theorem cut_whole (s : Bool) (n : Nat) : Toward.even.cut s n 0 = n := by
  unfold Toward.cut
  simp [Nat.mod_one]

/-- The float of a whole number of at most 53 bits: its rung. -/
theorem near_small (s : Bool) (m : Nat) (h0 : 0 < m) (h1 : m < 9007199254740992) :
    double.nearest s m 0 = double.word s ((m.log2 + 1022) * 4503599627370496 + m * 2 ^ (52 - m.log2)) ∧ m.log2 ≤ 52 ∧ 4503599627370496 ≤ m * 2 ^ (52 - m.log2) ∧ m * 2 ^ (52 - m.log2) < 9007199254740992 := by
  have hl : m.log2 < 53 := (Nat.log2_lt (by omega)).2 (by omega)
  have b1 : 2 ^ m.log2 ≤ m := Nat.log2_self_le (by omega)
  have b2 : m < 2 ^ (m.log2 + 1) := Nat.lt_log2_self
  have k1 : 4503599627370496 ≤ m * 2 ^ (52 - m.log2) := by
    have : 2 ^ m.log2 * 2 ^ (52 - m.log2) ≤ m * 2 ^ (52 - m.log2) := Nat.mul_le_mul_right _ b1
    rw [← Nat.pow_add, show m.log2 + (52 - m.log2) = 52 by omega] at this
    exact this
  have k2 : m * 2 ^ (52 - m.log2) < 9007199254740992 := by
    have : m * 2 ^ (52 - m.log2) < 2 ^ (m.log2 + 1) * 2 ^ (52 - m.log2) := Nat.mul_lt_mul_of_pos_right b2 (Nat.two_pow_pos _)
    rw [← Nat.pow_add, show m.log2 + 1 + (52 - m.log2) = 53 by omega] at this
    exact this
  refine ⟨?_, by omega, k1, k2⟩
  unfold Format.nearest
  rw [if_neg (by omega)]
  have fb : (double.fractionBits : Int) = 52 := rfl
  simp only [lp, bi, ir, fb]
  have e1 : max ((0 : Int) + (m.log2 : Int) - 52) (-1074) = (m.log2 : Int) - 52 := by omega
  rw [e1]
  have e2 : ((0 : Int) - ((m.log2 : Int) - 52)).toNat = 52 - m.log2 := by omega
  have e3 : ((m.log2 : Int) - 52 - 0).toNat = 0 := by omega
  have e4 : ((m.log2 : Int) - 52 - -1074).toNat = m.log2 + 1022 := by omega
  rw [e2, e3, e4, cut_whole, Nat.shiftLeft_eq]
  rw [Nat.min_eq_left (by omega)]

/-- It reads back as that number. -/
theorem read_small (s : Bool) (m : Nat) (h0 : 0 < m) (h1 : m < 9007199254740992) :
    (double.read (double.nearest s m 0)).toInt .zero = some (if s then -(m : Int) else (m : Int)) ∧ double.nearest s m 0 % 9223372036854775808 < 4890909195324358656 ∧
      (9223372036854775808 ≤ double.nearest s m 0 ↔ s = true) ∧ double.nearest s m 0 < 18446744073709551616 := by
  obtain ⟨e, hl, k1, k2⟩ := near_small s m h0 h1
  have hdiv : m * 2 ^ (52 - m.log2) / 2 ^ (52 - m.log2) = m := Nat.mul_div_cancel _ (Nat.two_pow_pos _)
  rw [e]
  generalize hK : m * 2 ^ (52 - m.log2) = K at k1 k2 hdiv
  have hw : double.word s ((m.log2 + 1022) * 4503599627370496 + K) = (if s then 9223372036854775808 else 0) + ((m.log2 + 1022) * 4503599627370496 + K) := by
    unfold Format.word; rw [sw]; split <;> simp
  rw [hw]
  have hmod : ((if s then 9223372036854775808 else 0) + ((m.log2 + 1022) * 4503599627370496 + K)) % 9223372036854775808 = (m.log2 + 1022) * 4503599627370496 + K := by
    split <;> omega
  have hsg : (((if s then 9223372036854775808 else 0) + ((m.log2 + 1022) * 4503599627370496 + K)) / 9223372036854775808 % 2 == 1) = s := by
    cases s <;> simp <;> omega
  refine ⟨?_, by rw [hmod]; omega, by cases s <;> simp <;> omega, by split <;> omega⟩
  unfold Format.read
  simp only [sw, bi, ir, lp]
  rw [hmod, hsg, if_neg (by omega), if_pos (by omega)]
  have q1 : ((m.log2 + 1022) * 4503599627370496 + K) % 4503599627370496 = K - 4503599627370496 := by omega
  have q2 : ((m.log2 + 1022) * 4503599627370496 + K) / 4503599627370496 = m.log2 + 1023 := by omega
  rw [q1, q2, toInt_number, cut_zero, Nat.shiftLeft_eq]
  have q3 : (-1074 + ((m.log2 + 1023 - 1 : Nat) : Int)).toNat = 0 := by omega
  have q4 : (-(-1074 + ((m.log2 + 1023 - 1 : Nat) : Int))).toNat = 52 - m.log2 := by omega
  have q5 : 4503599627370496 + (K - 4503599627370496) = K := by omega
  have q6 : 52 ≤ K.log2 := (Nat.le_log2 (by omega)).2 (by omega)
  rw [q3, q4, q5, Nat.pow_zero, Nat.mul_one, show min (52 - m.log2) (K.log2 + 2) = 52 - m.log2 by omega, hdiv]

/-- A whole number of at most 53 bits survives the way to a float and back. -/
theorem round_trip (n : Int) (h0 : -9007199254740992 < n) (h1 : n < 9007199254740992) :
    (double.read (floatOfInt .f64 n)).toInt .zero = some n ∧ key (floatOfInt .f64 n) < 4890909195324358656 ∧ -4890909195324358656 ≤ key (floatOfInt .f64 n) ∧ nan (floatOfInt .f64 n) = false ∧ floatOfInt .f64 n < 18446744073709551616 := by
  have e : floatOfInt .f64 n = double.nearest (decide (n < 0)) n.natAbs 0 := rfl
  by_cases hz : n = 0
  · subst hz; rw [e]; decide +kernel
  · obtain ⟨a, b, c, d⟩ := read_small (decide (n < 0)) n.natAbs (by omega) (by omega)
    rw [← e] at a b c d
    refine ⟨?_, ?_, ?_, ?_, d⟩
    · rw [a]
      by_cases hs : n < 0
      · rw [if_pos (decide_eq_true hs), show (-(n.natAbs : Int)) = n by omega]
      · rw [if_neg (by simpa using hs), show (n.natAbs : Int) = n by omega]
    · unfold key; split <;> omega
    · unfold key; split <;> omega
    · rw [e]; exact nearest_not_nan _ _ _
theorem floatOfInt_lt (n : Int) : floatOfInt .f64 n < 18446744073709551616 := double.nearest_lt _ _ _
theorem floatOfInt_not_nan (n : Int) : nan (floatOfInt .f64 n) = false := nearest_not_nan _ _ _
end Go.Proofs.YtkboeeakilhbhaaDoor.Flt
