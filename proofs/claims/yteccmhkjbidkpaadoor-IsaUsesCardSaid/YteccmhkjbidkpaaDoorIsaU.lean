/-
  Layer 3, plain mathematics: what an instruction uses and sets are registers, ascending; an invalid one uses and sets nothing; one that skips has no place and sets nothing.
-/
import Derived.Test.YteccmhkjbidkpaaDoorRefB
namespace Go.Proofs.YteccmhkjbidkpaaDoor.IsaU
open Go.ChangeShapes Go.WideShapes Go.ChangeAt Go.RowKit
open PlainT IsaE IsaS BlkW IsaA IsaB IsaF RefA RefB
set_option linter.unusedVariables false

theorem reg_in {n : Int} (h : reg n = true) : 0 ≤ n ∧ n < 8 := by
  unfold reg at h
  exact of_decide_eq_true h
theorem pass_a {T : List UInt8} {a b c : Int} (h : pass T a b c = true) (hm : 97 ∈ T) : 0 ≤ a ∧ a < 8 := by
  unfold pass at h
  have := List.all_eq_true.1 h 97 hm
  simp only [if_true] at this
  exact reg_in this
theorem pass_b {T : List UInt8} {a b c : Int} (h : pass T a b c = true) (hm : 98 ∈ T) : 0 ≤ b ∧ b < 8 := by
  unfold pass at h
  have := List.all_eq_true.1 h 98 hm
  simp only [show ¬ ((98 : UInt8) = 97) by decide, if_true, if_false] at this
  exact reg_in this
theorem pass_c {T : List UInt8} {a b c : Int} (h : pass T a b c = true) (hm : 99 ∈ T) : 0 ≤ c ∧ c < 8 := by
  unfold pass at h
  have := List.all_eq_true.1 h 99 hm
  simp only [show ¬ ((99 : UInt8) = 97) by decide, show ¬ ((99 : UInt8) = 98) by decide, if_true, if_false] at this
  exact reg_in this
theorem chk_pass {k : Nat} (hk : k < 18) {a b c i : Int} (h : chk k a b c i = 0) : pass (letters k) a b c = true := by
  rw [chk_in k hk] at h
  unfold chkV at h
  split at h
  · rename_i hf
    unfold fit at hf
    simp only [Bool.and_eq_true] at hf
    exact hf.2.1
  · cases h
/-- The list is short, its numbers are registers, ascending. -/
def Asc (zs : List Int) : Prop := zs.length ≤ 2 ∧ (∀ j, j < zs.length → 0 ≤ zs.getD j 0 ∧ zs.getD j 0 < 8) ∧ (zs.length = 2 → zs.getD 0 0 < zs.getD 1 0)
theorem Asc.nil : Asc [] := ⟨by simp, fun j hj => absurd hj (by simp), fun h => by cases h⟩
theorem Asc.one {x : Int} (h : 0 ≤ x ∧ x < 8) : Asc [x] := ⟨by simp, fun j hj => by
  have : j = 0 := by simpa using hj
  subst this
  exact h, fun h => by cases h⟩
theorem Asc.two {x y : Int} (h : 0 ≤ x ∧ x < 8) (k : 0 ≤ y ∧ y < 8) (l : x < y) : Asc [x, y] := ⟨by simp, fun j hj => by
  have : j = 0 ∨ j = 1 := by simp at hj; omega
  rcases this with rfl | rfl
  · exact h
  · exact k, fun _ => l⟩
theorem asc_u0 : Asc (twoU []) := by rw [twoU_nil]; exact Asc.nil
theorem asc_u1 {x : Int} (h : 0 ≤ x ∧ x < 8) : Asc (twoU [x]) := by rw [twoU_one]; exact Asc.one h
theorem asc_u2 {x y : Int} (h : 0 ≤ x ∧ x < 8) (k : 0 ≤ y ∧ y < 8) : Asc (twoU [x, y]) := by
  by_cases e : x = y
  · subst e; rw [twoU_eq]; exact Asc.one h
  · by_cases l : x < y
    · rw [twoU_lt x y l]; exact Asc.two h k l
    · rw [twoU_gt x y (by omega)]; exact Asc.two k h (by omega)
theorem uses_asc (op a b c i : Int) : Asc (usesV op a b c i) := by
  rcases chk_cases op a b c i with ⟨h0, h1, h2⟩ | h0 | h0
  · obtain ⟨k, rfl⟩ := Int.eq_ofNat_of_zero_le h1
    have hk : k < 18 := by omega
    rw [usesV_ok h0]
    have hp := chk_pass hk h0
    clear h0 h1 h2
    rcases op_cases hk with rfl | rfl | rfl | rfl | rfl | rfl | rfl | rfl | rfl | rfl | rfl | rfl | rfl | rfl | rfl | rfl | rfl | rfl
    all_goals first
      | exact asc_u0
      | exact asc_u1 (pass_a hp (by decide))
      | exact asc_u1 (pass_b hp (by decide))
      | exact asc_u2 (pass_a hp (by decide)) (pass_b hp (by decide))
      | exact asc_u2 (pass_b hp (by decide)) (pass_c hp (by decide))
  · rw [usesV_no (by omega)]; exact Asc.nil
  · rw [usesV_no (by omega)]; exact Asc.nil
theorem sets_in (op a b c i : Int) : -1 ≤ setsV op a b c i ∧ setsV op a b c i < 8 := by
  unfold setsV
  rcases chk_cases op a b c i with ⟨h0, h1, h2⟩ | h0 | h0
  · obtain ⟨k, rfl⟩ := Int.eq_ofNat_of_zero_le h1
    have hk : k < 18 := by omega
    rw [if_pos h0]
    have hp := chk_pass hk h0
    clear h0 h1 h2
    rw [Int.toNat_natCast]
    have all : ∀ k : Fin 18, opSets.getD k.val false = true → 97 ∈ letters k.val := by decide
    split
    · rename_i hs
      have := pass_a hp (all ⟨k, hk⟩ hs)
      omega
    · omega
  · rw [if_neg (by omega)]; omega
  · rw [if_neg (by omega)]; omega
theorem none_of {op a b c i : Int} (h : chk op a b c i ≠ 0) : usesV op a b c i = [] ∧ setsV op a b c i = -1 ∧ placeV op a b c i = 0 ∧ skipsB op a b c i = false := by
  refine ⟨usesV_no h, ?_, ?_, ?_⟩
  · unfold setsV; rw [if_neg h]
  · unfold placeV; rw [if_neg h]
  · unfold skipsB; rw [decide_eq_false h]; rfl
theorem skips_of {op a b c i : Int} (h : skipsB op a b c i = true) : placeV op a b c i = 0 ∧ setsV op a b c i = -1 := by
  unfold skipsB at h
  simp only [Bool.and_eq_true, Bool.or_eq_true, decide_eq_true_eq] at h
  obtain ⟨h0, h1⟩ := h
  unfold placeV setsV
  rw [if_pos h0, if_pos h0]
  rcases h1 with rfl | rfl | rfl <;> exact ⟨rfl, rfl⟩
end Go.Proofs.YteccmhkjbidkpaaDoor.IsaU
