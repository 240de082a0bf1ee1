/-
  Texts on no program: configurations; which are valid, how many blocks there are, where they lie.
-/
import Derived.WalkKit
namespace Go.Proofs.Ytpjbmbipkmpkhaa.LayS
open Go.RowKit
set_option linter.unusedVariables false

structure Cfg where
  w : Int
  o : Int
  b : Int
  c0 : Int
  c1 : Int
  c2 : Int
  c3 : Int
  r : Int
  t : Int
  a : Int
  f : Int
  k : Int
  s : Bool
def InI (n : Int) : Prop := -9223372036854775808 ≤ n ∧ n ≤ 9223372036854775807
def Cfg.ok (q : Cfg) : Prop := InI q.w ∧ InI q.o ∧ InI q.b ∧ InI q.c0 ∧ InI q.c1 ∧ InI q.c2 ∧ InI q.c3 ∧ InI q.r ∧ InI q.t ∧ InI q.a ∧ InI q.f ∧ InI q.k
abbrev cells (q : Cfg) : Array Value := #[.int .i64 q.w, .int .i64 q.o, .int .i64 q.b, .int .i64 q.c0, .int .i64 q.c1, .int .i64 q.c2, .int .i64 q.c3, .int .i64 q.r, .int .i64 q.t, .int .i64 q.a, .int .i64 q.f, .int .i64 q.k, .bool q.s]
abbrev cfgV (q : Cfg) : Value := .agg #[.int .i64 q.w, .int .i64 q.o, .int .i64 q.b, .int .i64 q.c0, .int .i64 q.c1, .int .i64 q.c2, .int .i64 q.c3, .int .i64 q.r, .int .i64 q.t, .int .i64 q.a, .int .i64 q.f, .int .i64 q.k, .bool q.s]
def inB (n lo hi : Int) : Bool := decide (lo ≤ n) && decide (n ≤ hi)
theorem inB_iff {n lo hi : Int} : inB n lo hi = true ↔ lo ≤ n ∧ n ≤ hi := by
  unfold inB
  simp
theorem inB_not {n lo hi : Int} : inB n lo hi = false ↔ n < lo ∨ hi < n := by
  unfold inB
  simp
  omega
def heapB (q : Cfg) : Bool := inB q.b 0 q.w && inB q.c0 0 64 && inB q.c1 0 64 && inB q.c2 0 64 && inB q.c3 0 64 && decide (q.c0 + q.c1 + q.c2 + q.c3 ≤ 64) && decide (q.b + q.c0 + 2 * q.c1 + 4 * q.c2 + 8 * q.c3 ≤ q.w)
def logsB (q : Cfg) : Bool := inB q.r 1 32 && inB q.t 1 32 && inB q.a 0 8 && inB q.f 0 8
def chkV (q : Cfg) : Int := if inB q.w 1 64 && inB q.o 1 64 then (if heapB q then (if logsB q then (if inB q.k 0 1099511627776 then 0 else 53) else 52) else 51) else 50
def Valid (q : Cfg) : Prop := 1 ≤ q.w ∧ q.w ≤ 64 ∧ 1 ≤ q.o ∧ q.o ≤ 64 ∧ 0 ≤ q.b ∧ q.b ≤ q.w ∧ 0 ≤ q.c0 ∧ 0 ≤ q.c1 ∧ 0 ≤ q.c2 ∧ 0 ≤ q.c3 ∧ q.c0 + q.c1 + q.c2 + q.c3 ≤ 64 ∧ q.b + q.c0 + 2 * q.c1 + 4 * q.c2 + 8 * q.c3 ≤ q.w ∧
  1 ≤ q.r ∧ q.r ≤ 32 ∧ 1 ≤ q.t ∧ q.t ≤ 32 ∧ 0 ≤ q.a ∧ q.a ≤ 8 ∧ 0 ≤ q.f ∧ q.f ≤ 8 ∧ 0 ≤ q.k ∧ q.k ≤ 1099511627776
theorem heap_iff {q : Cfg} : heapB q = true ↔ 0 ≤ q.b ∧ q.b ≤ q.w ∧ (0 ≤ q.c0 ∧ q.c0 ≤ 64) ∧ (0 ≤ q.c1 ∧ q.c1 ≤ 64) ∧ (0 ≤ q.c2 ∧ q.c2 ≤ 64) ∧ (0 ≤ q.c3 ∧ q.c3 ≤ 64) ∧ q.c0 + q.c1 + q.c2 + q.c3 ≤ 64 ∧ q.b + q.c0 + 2 * q.c1 + 4 * q.c2 + 8 * q.c3 ≤ q.w := by
  unfold heapB
  simp only [Bool.and_eq_true, inB_iff, decide_eq_true_eq]
  omega
theorem logs_iff {q : Cfg} : logsB q = true ↔ 1 ≤ q.r ∧ q.r ≤ 32 ∧ 1 ≤ q.t ∧ q.t ≤ 32 ∧ 0 ≤ q.a ∧ q.a ≤ 8 ∧ 0 ≤ q.f ∧ q.f ≤ 8 := by
  unfold logsB
  simp only [Bool.and_eq_true, inB_iff]
  omega
theorem chk_iff {q : Cfg} : chkV q = 0 ↔ Valid q := by
  unfold chkV Valid
  constructor
  · intro h
    split at h
    · rename_i h1
      split at h
      · rename_i h2
        split at h
        · rename_i h3
          split at h
          · rename_i h4
            simp only [Bool.and_eq_true, inB_iff] at h1 h4
            rw [heap_iff] at h2
            rw [logs_iff] at h3
            omega
          · cases h
        · cases h
      · cases h
    · cases h
  · intro h
    rw [if_pos (by simp only [Bool.and_eq_true, inB_iff]; omega), if_pos (by rw [heap_iff]; omega), if_pos (by rw [logs_iff]; omega), if_pos (by rw [inB_iff]; omega)]
theorem chk_in (q : Cfg) : 0 ≤ chkV q ∧ chkV q ≤ 53 := by
  unfold chkV
  split
  · split
    · split
      · split <;> omega
      · omega
    · omega
  · omega

/-- The number of blocks. -/
def blkV (q : Cfg) : Int := if chkV q = 0 then q.c0 + q.c1 + q.c2 + q.c3 else 0
theorem blk_in (q : Cfg) : 0 ≤ blkV q ∧ blkV q ≤ 64 := by
  unfold blkV
  split
  · rename_i h
    rw [chk_iff] at h
    unfold Valid at h
    omega
  · omega
theorem blk_valid {q : Cfg} {b : Int} (h0 : 0 ≤ b) (h : b < blkV q) : Valid q ∧ b < q.c0 + q.c1 + q.c2 + q.c3 := by
  unfold blkV at h
  split at h
  · rename_i h1
    exact ⟨chk_iff.1 h1, h⟩
  · omega
/-- The number of blocks of the classes below k; their words. -/
def pre (q : Cfg) : Nat → Int
  | 0 => 0
  | 1 => q.c0
  | 2 => q.c0 + q.c1
  | 3 => q.c0 + q.c1 + q.c2
  | _ => q.c0 + q.c1 + q.c2 + q.c3
def preW (q : Cfg) : Nat → Int
  | 0 => 0
  | 1 => q.c0
  | 2 => q.c0 + 2 * q.c1
  | 3 => q.c0 + 2 * q.c1 + 4 * q.c2
  | _ => q.c0 + 2 * q.c1 + 4 * q.c2 + 8 * q.c3
def clsN (q : Cfg) (b : Int) : Nat := if b < q.c0 then 0 else if b < q.c0 + q.c1 then 1 else if b < q.c0 + q.c1 + q.c2 then 2 else 3
def fstN (q : Cfg) (b : Int) : Int := q.b + (if b < q.c0 then b else if b < q.c0 + q.c1 then q.c0 + 2 * (b - q.c0) else if b < q.c0 + q.c1 + q.c2 then q.c0 + 2 * q.c1 + 4 * (b - q.c0 - q.c1) else q.c0 + 2 * q.c1 + 4 * q.c2 + 8 * (b - q.c0 - q.c1 - q.c2))
def clsV (q : Cfg) (b : Int) : Int := if 0 ≤ b ∧ b < blkV q then clsN q b else -1
def fstV (q : Cfg) (b : Int) : Int := if 0 ≤ b ∧ b < blkV q then fstN q b else -1
def p2 (k : Nat) : Int := if k = 0 then 1 else if k = 1 then 2 else if k = 2 then 4 else 8
theorem p2_0 : p2 0 = 1 := rfl
theorem p2_1 : p2 1 = 2 := rfl
theorem p2_2 : p2 2 = 4 := rfl
theorem p2_3 : p2 3 = 8 := rfl
theorem cls_lt (q : Cfg) (b : Int) : clsN q b ≤ 3 := by
  unfold clsN
  split
  · omega
  · split
    · omega
    · split <;> omega
theorem fst_zero {q : Cfg} (h : Valid q) (h0 : 0 < q.c0 + q.c1 + q.c2 + q.c3) : fstN q 0 = q.b := by
  unfold Valid at h
  unfold fstN
  split
  · omega
  · split
    · omega
    · split <;> omega
theorem fst_step {q : Cfg} (h : Valid q) {i : Int} (h0 : 0 ≤ i) (h1 : i + 1 < q.c0 + q.c1 + q.c2 + q.c3) : fstN q (i + 1) = fstN q i + p2 (clsN q i) := by
  unfold Valid at h
  unfold fstN clsN
  by_cases k0 : i < q.c0
  · rw [if_pos k0, if_pos k0]
    rw [p2_0]
    split
    · omega
    · split
      · omega
      · split <;> omega
  · rw [if_neg k0, if_neg k0, if_neg (by omega : ¬ i + 1 < q.c0)]
    by_cases k1 : i < q.c0 + q.c1
    · rw [if_pos k1, if_pos k1]
      rw [p2_1]
      split
      · omega
      · split <;> omega
    · rw [if_neg k1, if_neg k1, if_neg (by omega : ¬ i + 1 < q.c0 + q.c1)]
      by_cases k2 : i < q.c0 + q.c1 + q.c2
      · rw [if_pos k2, if_pos k2]
        rw [p2_2]
        split <;> omega
      · rw [if_neg k2, if_neg k2, if_neg (by omega : ¬ i + 1 < q.c0 + q.c1 + q.c2)]
        rw [p2_3]
        omega
theorem fst_in {q : Cfg} (h : Valid q) {i : Int} (h0 : 0 ≤ i) (h1 : i < q.c0 + q.c1 + q.c2 + q.c3) : q.b ≤ fstN q i ∧ fstN q i + p2 (clsN q i) ≤ q.w ∧ fstN q i + p2 (clsN q i) ≤ 64 ∧ 0 ≤ fstN q i ∧ 1 ≤ p2 (clsN q i) := by
  unfold Valid at h
  unfold fstN clsN
  by_cases k0 : i < q.c0
  · rw [if_pos k0, if_pos k0]
    rw [p2_0]
    omega
  · rw [if_neg k0, if_neg k0]
    by_cases k1 : i < q.c0 + q.c1
    · rw [if_pos k1, if_pos k1]
      rw [p2_1]
      omega
    · rw [if_neg k1, if_neg k1]
      by_cases k2 : i < q.c0 + q.c1 + q.c2
      · rw [if_pos k2, if_pos k2]
        rw [p2_2]
        omega
      · rw [if_neg k2, if_neg k2]
        rw [p2_3]
        omega
theorem fstV_in (q : Cfg) (b : Int) : -1 ≤ fstV q b ∧ fstV q b ≤ 64 := by
  unfold fstV
  split
  · rename_i h
    obtain ⟨hv, hb⟩ := blk_valid h.1 h.2
    have := fst_in hv h.1 hb
    omega
  · omega
theorem clsV_in (q : Cfg) (b : Int) : -1 ≤ clsV q b ∧ clsV q b ≤ 3 := by
  unfold clsV
  split
  · have := cls_lt q b
    omega
  · omega
/-- What locates a block: its class is k exactly if this holds. -/
theorem loc_done {q : Cfg} (h : Valid q) {b : Int} {k : Nat} (hk : k ≤ 3) (h0 : pre q k ≤ b) (h1 : b < pre q (k + 1)) : clsN q b = k ∧ fstN q b = q.b + preW q k + p2 k * (b - pre q k) := by
  unfold Valid at h
  have hk' : k = 0 ∨ k = 1 ∨ k = 2 ∨ k = 3 := by omega
  unfold clsN fstN
  rcases hk' with rfl | rfl | rfl | rfl
  · simp only [pre] at h0 h1
    have n0 : b < q.c0 := by omega
    rw [if_pos n0, if_pos n0, p2_0]
    exact ⟨rfl, by simp only [pre, preW]; omega⟩
  · simp only [pre] at h0 h1
    have n0 : ¬ b < q.c0 := by omega
    have n1 : b < q.c0 + q.c1 := by omega
    rw [if_neg n0, if_neg n0, if_pos n1, if_pos n1, p2_1]
    exact ⟨rfl, by simp only [pre, preW]; omega⟩
  · simp only [pre] at h0 h1
    have n0 : ¬ b < q.c0 := by omega
    have n1 : ¬ b < q.c0 + q.c1 := by omega
    have n2 : b < q.c0 + q.c1 + q.c2 := by omega
    rw [if_neg n0, if_neg n0, if_neg n1, if_neg n1, if_pos n2, if_pos n2, p2_2]
    exact ⟨rfl, by simp only [pre, preW]; omega⟩
  · simp only [pre] at h0 h1
    have n0 : ¬ b < q.c0 := by omega
    have n1 : ¬ b < q.c0 + q.c1 := by omega
    have n2 : ¬ b < q.c0 + q.c1 + q.c2 := by omega
    rw [if_neg n0, if_neg n0, if_neg n1, if_neg n1, if_neg n2, if_neg n2, p2_3]
    exact ⟨rfl, by simp only [pre, preW]; omega⟩
/-- The first block from b on (fuel n) whose first address is x, or -1. -/
def findGo (q : Cfg) (x : Int) : Nat → Int → Int
  | 0, _ => -1
  | n + 1, b => if fstV q b = x then b else findGo q x n (b + 1)
def findV (q : Cfg) (x : Int) : Int := findGo q x (blkV q).toNat 0
theorem findGo_in (q : Cfg) (x : Int) : ∀ (n : Nat) (b : Int), 0 ≤ b → b + n ≤ 64 → -1 ≤ findGo q x n b ∧ findGo q x n b ≤ 64
  | 0, b, h0, h1 => by unfold findGo; omega
  | n + 1, b, h0, h1 => by
    unfold findGo
    split
    · omega
    · exact findGo_in q x n (b + 1) (by omega) (by omega)
theorem findV_in (q : Cfg) (x : Int) : -1 ≤ findV q x ∧ findV q x ≤ 64 := by
  have := blk_in q
  exact findGo_in q x _ 0 (by omega) (by omega)
def orcV (q : Cfg) (a : Int) : Int := if chkV q = 0 ∧ 0 ≤ a ∧ a < q.w + blkV q then a % q.o else -1
end Go.Proofs.Ytpjbmbipkmpkhaa.LayS
