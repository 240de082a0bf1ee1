/-
  Package reader and its reference: one contract for a step in any state, over cells and boxes.
-/
import Derived.Test.YtcbhpoajpingcaaLabX
import Derived.Test.YtcbhpoajpingcaaRdB
namespace Go.Proofs.Ytcbhpoajpingcaa.RdC
open Go.ChangeShapes Go.WideShapes Go.ChangeAt Go.RowKit
open PlainT BlkW LayS LayA LayK LayP CelS CelM CelP CelV CelN CelO CelI CelY CelF CelB LabD LabR LabP LabS LabX RdA RdB WordC
set_option linter.unusedVariables false
set_option maxHeartbeats 1000000

abbrev TRd : TypeId := 143
abbrev TQd : TypeId := 94
/-- The program's machine that is to make step number t (3: finished, 4: finished with a conflict), and the reference's. -/
def pB (a o : Nat) (r t bf vl : Int) : Array Value := #[.int .i64 (if t = 4 then 3 else t), .int .i64 a, .int .i64 o, .int .i64 r, .int .u64 bf, .int .u64 vl, .bool (t == 4)]
def rB (a o : Nat) (r t bf vl : Int) : Array Value := #[.int .i64 a, .int .i64 o, .int .i64 r, .int .i64 t, .int .u64 bf, .int .u64 vl]
/-- What a step makes of the state when the ownership record is x and the word y. -/
def nAt (r x t bf : Int) : Int := if t = 0 then (if 0 ≤ x % 64 - 1 ∨ r < x / 64 then 4 else 1) else if t = 1 then 2 else if t = 2 then (if x = bf then 3 else 4) else t
def nBf (x t bf : Int) : Int := if t = 0 then x else bf
def nVl (y t vl : Int) : Int := if t = 1 then y else vl
def nAc (a o : Nat) (x y t : Int) : Int × Int × Int × Int × Int × Bool := if t = 0 ∨ t = 2 then (1, 2, o, x, x, true) else if t = 1 then (1, 1, a, y, y, true) else (0, 0, 0, 0, 0, false)
theorem nAc_ex (a o : Nat) (x y t : Int) : ∃ k1 k2 k3 k4 k5 d, nAc a o x y t = (k1, k2, k3, k4, k5, d) := ⟨_, _, _, _, _, _, rfl⟩
theorem nAt_0 (r x bf : Int) : nAt r x 0 bf = if 0 ≤ x % 64 - 1 ∨ r < x / 64 then 4 else 1 := rfl
theorem nAt_2 (r x bf : Int) : nAt r x 2 bf = if x = bf then 3 else 4 := rfl
theorem nAt_in {r x t bf : Int} (h : 0 ≤ t ∧ t ≤ 4) : 0 ≤ nAt r x t bf ∧ nAt r x t bf ≤ 4 := by
  unfold nAt
  split
  · split <;> omega
  · split
    · omega
    · split
      · split <;> omega
      · exact h
theorem nAt_up {r x t bf : Int} (h : 0 ≤ t ∧ t ≤ 4) : t + 1 ≤ nAt r x t bf ∨ (3 ≤ t ∧ nAt r x t bf = t) := by
  unfold nAt
  split
  · split <;> omega
  · split
    · omega
    · split
      · split <;> omega
      · omega
section
variable {w0 w : World} {lo hi b rb g a o : Nat} {q : Cfg} {A B : Int → List Int} {ex : List Bx} {r t bf vl x y : Int}
theorem x_step (h : Lb w0 lo hi b rb q A B ex w) (i : Nat) (he : ex[i]? = some (g, TRd, pB a o r t bf vl)) (ht : 0 ≤ t ∧ t ≤ 4) (ho : o < (A 2).length) (ha : a < (A 1).length) (hx : (A 2).getD o 0 = x) (x0 : 0 ≤ x) (x1 : x ≤ 18446744073709551615) (hy : (A 1).getD a 0 = y)
    {k1 k2 k3 k4 k5 : Int} {d : Bool} (hv : Hid (nAc a o x y t = (k1, k2, k3, k4, k5, d))) :
    Calls Try.prog 53 #[.pointer (some ⟨g, 0, none⟩), .pointer (some ⟨b, 0, none⟩)] w fun e w' => e = .returned (accV k1 k2 k3 k4 k5 d) ∧ Lb w0 lo hi b rb q A B (ex.set i (g, TRd, pB a o r (nAt r x t bf) (nBf x t bf) (nVl y t vl))) w' := by
  have hg : g < lo ∨ hi ≤ g := .inr (h.at_ i he).1
  have M := (h.at_ i he).2
  have hv := hv.out
  have ht' : t = 0 ∨ t = 1 ∨ t = 2 ∨ t = 3 ∨ t = 4 := by omega
  rcases ht' with rfl | rfl | rfl | rfl | rfl
  · cases hv
    by_cases hh : 0 ≤ x % 64 - 1
    · refine (rd_s0_held h.duo hg a r bf vl false o ho x hx x0 x1 _ rfl (by simp; omega) M).mono ?_
      rintro e w' ⟨he', hD, hM, hF⟩
      refine ⟨he', h.step i he hD ?_ hF⟩
      rw [show nAt r x 0 bf = 4 from (nAt_0 r x bf).trans (if_pos (.inl hh))]
      exact hM
    · by_cases hr : r < x / 64
      · refine (rd_s0_new h.duo hg a r bf vl false o ho x hx x0 x1 _ rfl (by simp; omega) hr M).mono ?_
        rintro e w' ⟨he', hD, hM, hF⟩
        refine ⟨he', h.step i he hD ?_ hF⟩
        rw [show nAt r x 0 bf = 4 from (nAt_0 r x bf).trans (if_pos (.inr hr))]
        exact hM
      · refine (rd_s0_go h.duo hg a r bf vl false o ho x hx x0 x1 _ rfl (by simp; omega) (by omega) M).mono ?_
        rintro e w' ⟨he', hD, hM, hF⟩
        refine ⟨he', h.step i he hD ?_ hF⟩
        rw [show nAt r x 0 bf = 1 from (nAt_0 r x bf).trans (if_neg (by omega))]
        exact hM
  · cases hv
    refine (rd_s1 h.duo hg o r bf vl false a ha y hy M).mono ?_
    rintro e w' ⟨he', hD, hM, hF⟩
    exact ⟨he', h.step i he hD hM hF⟩
  · cases hv
    by_cases hb : x = bf
    · refine (rd_s2 h.duo hg a r bf vl false false o ho x hx (by simp [hb]) M).mono ?_
      rintro e w' ⟨he', hD, hM, hF⟩
      refine ⟨he', h.step i he hD ?_ hF⟩
      rw [show nAt r x 2 bf = 3 from (nAt_2 r x bf).trans (if_pos hb)]
      exact hM
    · refine (rd_s2 h.duo hg a r bf vl false true o ho x hx (by simp [hb]) M).mono ?_
      rintro e w' ⟨he', hD, hM, hF⟩
      refine ⟨he', h.step i he hD ?_ hF⟩
      rw [show nAt r x 2 bf = 4 from (nAt_2 r x bf).trans (if_neg hb)]
      exact hM
  · cases hv
    refine (rd_s3 h.duo hg a o r bf vl false M).mono ?_
    rintro e w' ⟨he', hD, hM, hF⟩
    exact ⟨he', h.step i he hD hM hF⟩
  · cases hv
    refine (rd_s3 h.duo hg a o r bf vl true M).mono ?_
    rintro e w' ⟨he', hD, hM, hF⟩
    exact ⟨he', h.step i he hD hM hF⟩
theorem y_step (h : Lb w0 lo hi b rb q A B ex w) (i : Nat) (he : ex[i]? = some (g, TQd, rB a o r t bf vl)) (ht : 0 ≤ t ∧ t ≤ 4) (ho : o < (B 2).length) (ha : a < (B 1).length) (hx : (B 2).getD o 0 = x) (x0 : 0 ≤ x) (x1 : x ≤ 18446744073709551615) (hy : (B 1).getD a 0 = y)
    {k1 k2 k3 k4 k5 : Int} {d : Bool} (hv : Hid (nAc a o x y t = (k1, k2, k3, k4, k5, d))) :
    Calls Try.prog 54 #[.pointer (some ⟨g, 0, none⟩), .pointer (some ⟨rb, 0, none⟩)] w fun e w' => e = .returned (accV k1 k2 k3 k4 k5 d) ∧ Lb w0 lo hi b rb q A B (ex.set i (g, TQd, rB a o r (nAt r x t bf) (nBf x t bf) (nVl y t vl))) w' := by
  have hg : g < lo ∨ hi ≤ g := .inr (h.at_ i he).1
  have M := (h.at_ i he).2
  have hv := hv.out
  have ht' : t = 0 ∨ t = 1 ∨ t = 2 ∨ t = 3 ∨ t = 4 := by omega
  rcases ht' with rfl | rfl | rfl | rfl | rfl
  · cases hv
    by_cases hh : 0 ≤ x % 64 - 1
    · refine (rr_s0_held h.duo hg a r bf vl o ho x hx x0 x1 _ rfl hh M).mono ?_
      rintro e w' ⟨he', hD, hM, hF⟩
      refine ⟨he', h.step i he hD ?_ hF⟩
      rw [show nAt r x 0 bf = 4 from (nAt_0 r x bf).trans (if_pos (.inl hh))]
      exact hM
    · by_cases hr : r < x / 64
      · refine (rr_s0_new h.duo hg a r bf vl o ho x hx x0 x1 _ rfl (by simp; omega) hr M).mono ?_
        rintro e w' ⟨he', hD, hM, hF⟩
        refine ⟨he', h.step i he hD ?_ hF⟩
        rw [show nAt r x 0 bf = 4 from (nAt_0 r x bf).trans (if_pos (.inr hr))]
        exact hM
      · refine (rr_s0_go h.duo hg a r bf vl o ho x hx x0 x1 _ rfl (by simp; omega) (by omega) M).mono ?_
        rintro e w' ⟨he', hD, hM, hF⟩
        refine ⟨he', h.step i he hD ?_ hF⟩
        rw [show nAt r x 0 bf = 1 from (nAt_0 r x bf).trans (if_neg (by omega))]
        exact hM
  · cases hv
    refine (rr_s1 h.duo hg o r bf vl a ha y hy M).mono ?_
    rintro e w' ⟨he', hD, hM, hF⟩
    exact ⟨he', h.step i he hD hM hF⟩
  · cases hv
    by_cases hb : x = bf
    · refine (rr_s2_no h.duo hg a r bf vl o ho x hx (by simp [hb]) M).mono ?_
      rintro e w' ⟨he', hD, hM, hF⟩
      refine ⟨he', h.step i he hD ?_ hF⟩
      rw [show nAt r x 2 bf = 3 from (nAt_2 r x bf).trans (if_pos hb)]
      exact hM
    · refine (rr_s2_yes h.duo hg a r bf vl o ho x hx (by simp [hb]) M).mono ?_
      rintro e w' ⟨he', hD, hM, hF⟩
      refine ⟨he', h.step i he hD ?_ hF⟩
      rw [show nAt r x 2 bf = 4 from (nAt_2 r x bf).trans (if_neg hb)]
      exact hM
  · cases hv
    refine (rr_s3 h.duo hg a o r bf vl M).mono ?_
    rintro e w' ⟨he', hD, hM, hF⟩
    exact ⟨he', h.step i he hD hM hF⟩
  · cases hv
    refine (rr_s4 h.duo hg a o r bf vl M).mono ?_
    rintro e w' ⟨he', hD, hM, hF⟩
    exact ⟨he', h.step i he hD hM hF⟩
theorem x_done (h : Lb w0 lo hi b rb q A B ex w) (i : Nat) (he : ex[i]? = some (g, TRd, pB a o r t bf vl)) (ht : 0 ≤ t ∧ t ≤ 4) {D : Bool} (hd : Hid (decide (3 ≤ t) = D)) : Calls Try.prog 55 #[.pointer (some ⟨g, 0, none⟩)] w fun e w' => e = .returned (.bool D) ∧ w = w' := by
  have e := rd_done g (if t = 4 then 3 else t) a o r bf vl (t == 4) w (h.at_ i he).2
  have ed : ((if t = 4 then 3 else t) == 3) = D := by
    rw [← hd.out]
    have ht' : t = 0 ∨ t = 1 ∨ t = 2 ∨ t = 3 ∨ t = 4 := by omega
    rcases ht' with rfl | rfl | rfl | rfl | rfl <;> rfl
  rw [ed] at e
  exact e
theorem y_done (h : Lb w0 lo hi b rb q A B ex w) (i : Nat) (he : ex[i]? = some (g, TQd, rB a o r t bf vl)) {D : Bool} (hd : Hid (decide (3 ≤ t) = D)) : Calls Try.prog 56 #[.pointer (some ⟨g, 0, none⟩)] w fun e w' => e = .returned (.bool D) ∧ w = w' := by
  have e := rr_done g a o r t bf vl w (h.at_ i he).2
  rw [hd.out] at e
  exact e
theorem x_conflict (h : Lb w0 lo hi b rb q A B ex w) (i : Nat) (he : ex[i]? = some (g, TRd, pB a o r t bf vl)) {C : Bool} (hc : Hid ((t == 4) = C)) : Calls Try.prog 57 #[.pointer (some ⟨g, 0, none⟩)] w fun e w' => e = .returned (.bool C) ∧ w = w' := by
  have e := rd_conflict g (if t = 4 then 3 else t) a o r bf vl (t == 4) w (h.at_ i he).2
  rw [hc.out] at e
  exact e
/-- The value that a machine tells. -/
def vV (t vl : Int) : Int := if t = 3 then vl else 0
theorem x_value (h : Lb w0 lo hi b rb q A B ex w) (i : Nat) (he : ex[i]? = some (g, TRd, pB a o r t bf vl)) (ht : 0 ≤ t ∧ t ≤ 4) {v : Int} (hv : Hid (vV t vl = v)) : Calls Try.prog 58 #[.pointer (some ⟨g, 0, none⟩)] w fun e w' => e = .returned (.int .u64 v) ∧ ∃ n, w' = w.drewN n := by
  have M := (h.at_ i he).2
  have hv := hv.out
  have ht' : t = 0 ∨ t = 1 ∨ t = 2 ∨ t = 3 ∨ t = 4 := by omega
  rcases ht' with rfl | rfl | rfl | rfl | rfl <;> cases hv
  · exact rd_value_not g 0 a o r bf vl false rfl w M
  · exact rd_value_not g 1 a o r bf vl false rfl w M
  · exact rd_value_not g 2 a o r bf vl false rfl w M
  · exact rd_value g a o r bf vl w M
  · exact rd_value_no g a o r bf vl w M
end
end Go.Proofs.Ytcbhpoajpingcaa.RdC
