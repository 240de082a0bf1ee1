/-
  Texts on no program: blocks lie one behind another; the block at an address.
-/
import Derived.Test.YtaljpggppocnjaaLayF
namespace Go.Proofs.Ytaljpggppocnjaa.LayQ
open Go.RowKit
open LayS LayF
set_option linter.unusedVariables false

theorem fst_step2 {q : Cfg} (h : Valid q) {i : Int} (h0 : 0 ≤ i) (h1 : i < q.c0 + q.c1 + q.c2 + q.c3) : fstN q (i + 1) = fstN q i + p2 (clsN q i) := by
  unfold Valid at h
  unfold fstN clsN
  by_cases k0 : i < q.c0
  · rw [if_pos k0, if_pos k0]
    rw [p2_0]
    split
    · omega
    · split
      · omega
      · split <;> omega
  · rw [if_neg k0, if_neg k0, if_neg (by omega : ¬ i + 1 < q.c0)]
    by_cases k1 : i < q.c0 + q.c1
    · rw [if_pos k1, if_pos k1]
      rw [p2_1]
      split
      · omega
      · split <;> omega
    · rw [if_neg k1, if_neg k1, if_neg (by omega : ¬ i + 1 < q.c0 + q.c1)]
      by_cases k2 : i < q.c0 + q.c1 + q.c2
      · rw [if_pos k2, if_pos k2]
        rw [p2_2]
        split <;> omega
      · rw [if_neg k2, if_neg k2, if_neg (by omega : ¬ i + 1 < q.c0 + q.c1 + q.c2)]
        rw [p2_3]
        omega
theorem p2_pos (k : Nat) : 1 ≤ p2 k := by
  unfold p2
  split
  · omega
  · split
    · omega
    · split <;> omega
theorem fst_mono {q : Cfg} (h : Valid q) (d : Nat) : ∀ {i : Int}, 0 ≤ i → i + d + 1 ≤ q.c0 + q.c1 + q.c2 + q.c3 → fstN q i + p2 (clsN q i) ≤ fstN q (i + d + 1) := by
  induction d with
  | zero =>
    intro i h0 h1
    have := fst_step2 h h0 (by omega)
    rw [show i + ((0 : Nat) : Int) + 1 = i + 1 by omega, this]
    exact Int.le_refl _
  | succ d ih =>
    intro i h0 h1
    have h2 := ih (i := i) h0 (by omega)
    have h3 := fst_step2 h (i := i + d + 1) (by omega) (by omega)
    have h4 := p2_pos (clsN q (i + d + 1))
    rw [show i + ((d + 1 : Nat) : Int) + 1 = i + d + 1 + 1 by omega, h3]
    omega
theorem fst_lt {q : Cfg} (h : Valid q) {i j : Int} (h0 : 0 ≤ i) (h1 : i < j) (h2 : j ≤ q.c0 + q.c1 + q.c2 + q.c3) : fstN q i + p2 (clsN q i) ≤ fstN q j := by
  have := fst_mono h (j - i - 1).toNat (i := i) h0 (by omega)
  rwa [show i + ((j - i - 1).toNat : Int) + 1 = j by omega] at this
theorem findGo_hit {q : Cfg} {x k : Int} : ∀ (n : Nat) {b : Int}, b ≤ k → k < b + n → fstV q k = x → (∀ j, b ≤ j → j < k → fstV q j ≠ x) → findGo q x n b = k
  | 0, b, h0, h1, h2, h3 => by omega
  | n + 1, b, h0, h1, h2, h3 => by
    unfold findGo
    by_cases he : b = k
    · rw [if_pos (by rw [he]; exact h2)]
      exact he
    · rw [if_neg (h3 b (by omega) (by omega))]
      exact findGo_hit n (by omega) (by omega) h2 (fun j a c => h3 j (by omega) c)
theorem findGo_miss {q : Cfg} {x : Int} : ∀ (n : Nat) {b : Int}, (∀ j, b ≤ j → j < b + n → fstV q j ≠ x) → findGo q x n b = -1
  | 0, b, h => by unfold findGo; rfl
  | n + 1, b, h => by
    unfold findGo
    rw [if_neg (h b (by omega) (by omega))]
    exact findGo_miss n (fun j a c => h j (by omega) (by omega))
theorem find_hit {q : Cfg} (h : Valid q) {b : Int} (h0 : 0 ≤ b) (h1 : b < blkV q) : findV q (fstN q b) = b := by
  have hb := blk_of h
  unfold findV
  refine findGo_hit _ (by omega) (by omega) (fst_of h0 h1) (fun j a c => ?_)
  rw [fst_of a (by omega)]
  have := fst_lt h a c (by omega)
  have := p2_pos (clsN q j)
  omega
theorem find_miss {q : Cfg} {x : Int} (hx : ∀ j, 0 ≤ j → j < blkV q → fstN q j ≠ x) : findV q x = -1 := by
  have := blk_in q
  unfold findV
  refine findGo_miss _ (fun j a c => ?_)
  rw [fst_of a (by omega)]
  exact hx j a (by omega)
theorem find_inside {q : Cfg} (h : Valid q) {b i : Int} (h0 : 0 ≤ b) (h1 : b < blkV q) (i0 : 0 < i) (i1 : i < p2 (clsN q b)) : findV q (fstN q b + i) = -1 := by
  have hb := blk_of h
  refine find_miss (fun j a c => ?_)
  rcases (show j < b ∨ j = b ∨ b < j by omega) with k | rfl | k
  · have := fst_lt h a k (by omega)
    have := p2_pos (clsN q j)
    omega
  · omega
  · have := fst_lt h h0 k (by omega)
    omega
theorem find_end {q : Cfg} (h : Valid q) : findV q (fstN q (blkV q)) = -1 := by
  have hb := blk_of h
  refine find_miss (fun j a c => ?_)
  have := fst_lt h a c (by omega)
  have := p2_pos (clsN q j)
  omega
theorem fst_end {q : Cfg} (h : Valid q) : fstN q (blkV q) = q.b + (q.c0 + 2 * q.c1 + 4 * q.c2 + 8 * q.c3) := by
  rw [blk_of h]
  unfold Valid at h
  unfold fstN
  rw [if_neg (by omega), if_neg (by omega), if_neg (by omega)]
  omega
theorem fst_end_le {q : Cfg} (h : Valid q) : 0 ≤ fstN q (blkV q) ∧ fstN q (blkV q) ≤ q.w ∧ fstN q (blkV q) ≤ 64 := by
  rw [fst_end h]
  unfold Valid at h
  omega
theorem fst_first {q : Cfg} (h : Valid q) : fstN q 0 = q.b := by
  unfold Valid at h
  unfold fstN
  split
  · omega
  · split
    · omega
    · split <;> omega
theorem cls_end (q : Cfg) : clsV q (blkV q) = -1 := by
  unfold clsV
  rw [if_neg (by omega)]
/-! What the counts' loop keeps. -/
def wsum (k : Int) (q : Cfg) : Int := if k = 0 then 0 else if k = 1 then q.c0 else if k = 2 then q.c0 + 2 * q.c1 else if k = 3 then q.c0 + 2 * q.c1 + 4 * q.c2 else q.c0 + 2 * q.c1 + 4 * q.c2 + 8 * q.c3
def cpart (k : Int) (q : Cfg) (l : Int) : Prop := wsum k q + l = 64 ∧ (1 ≤ k → 0 ≤ q.c0) ∧ (2 ≤ k → 0 ≤ q.c1) ∧ (3 ≤ k → 0 ≤ q.c2) ∧ (4 ≤ k → 0 ≤ q.c3)
theorem part0 (q : Cfg) : cpart 0 q 64 := ⟨by unfold wsum; simp, by omega, by omega, by omega, by omega⟩
theorem part1 {q : Cfg} {l c : Int} (h : cpart 0 q l) (h0 : 0 ≤ c) : cpart 1 { q with c0 := c } (l - c) := by
  obtain ⟨h1, h2, h3, h4, h5⟩ := h
  simp [wsum] at h1
  refine ⟨by simp [wsum]; omega, ?_, ?_, ?_, ?_⟩ <;> simp only <;> omega
theorem part2 {q : Cfg} {l c : Int} (h : cpart 1 q l) (h0 : 0 ≤ c) : cpart 2 { q with c1 := c } (l - c * 2) := by
  obtain ⟨h1, h2, h3, h4, h5⟩ := h
  simp [wsum] at h1
  refine ⟨by simp [wsum]; omega, ?_, ?_, ?_, ?_⟩ <;> simp only <;> omega
theorem part3 {q : Cfg} {l c : Int} (h : cpart 2 q l) (h0 : 0 ≤ c) : cpart 3 { q with c2 := c } (l - c * 4) := by
  obtain ⟨h1, h2, h3, h4, h5⟩ := h
  simp [wsum] at h1
  refine ⟨by simp [wsum]; omega, ?_, ?_, ?_, ?_⟩ <;> simp only <;> omega
theorem part4 {q : Cfg} {l c : Int} (h : cpart 3 q l) (h0 : 0 ≤ c) : cpart 4 { q with c3 := c } (l - c * 8) := by
  obtain ⟨h1, h2, h3, h4, h5⟩ := h
  simp [wsum] at h1
  refine ⟨by simp [wsum]; omega, ?_, ?_, ?_, ?_⟩ <;> simp only <;> omega
theorem part_valid {q : Cfg} {l m : Int} (h : cpart 4 q l) (hw : q.w = 64) (ho : 1 ≤ q.o ∧ q.o ≤ 64) (hr : 1 ≤ q.r ∧ q.r ≤ 32) (ht : 1 ≤ q.t ∧ q.t ≤ 32) (ha : 0 ≤ q.a ∧ q.a ≤ 8) (hf : 0 ≤ q.f ∧ q.f ≤ 8) (hk : 0 ≤ q.k ∧ q.k ≤ 50) (m0 : 0 ≤ m) (m1 : m ≤ l) : Valid { q with b := m } := by
  obtain ⟨h1, h2, h3, h4, h5⟩ := h
  simp [wsum] at h1
  unfold Valid
  simp only
  omega
end Go.Proofs.Ytaljpggppocnjaa.LayQ
