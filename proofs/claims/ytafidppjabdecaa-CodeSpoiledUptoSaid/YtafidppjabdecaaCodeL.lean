/-
  Contracts of the reader of package code: a script.
-/
import Derived.Test.YtafidppjabdecaaCodeG
import Derived.Deep.QuietTactic
import Derived.BigQuiet
import Derived.Deep.RegionWith
import Derived.Deep.RegionHeld3
namespace Go.Proofs.Ytafidppjabdecaa.CodeL
open Go.ChangeShapes Go.WideShapes Go.ChangeAt Go.RowKit
open PlainT BlkW LawFrame CodeS CodeW CodeA CodeE CodeF CodeG
set_option linter.unusedVariables false
set_option maxHeartbeats 1000000

def chk : List Int → List Int → Option (List Int)
  | [], l => some l
  | _ :: _, [] => none
  | m :: ms, b :: r => if b = m then chk ms r else none
theorem rM_chk (l : List Int) : rM l = chk [83, 84, 88, 49] l := by
  match l with
  | [] => rfl
  | [a] => unfold rM; simp only [chk]; split <;> rfl
  | [a, b] => unfold rM; simp only [chk]; split <;> (try split) <;> rfl
  | [a, b, c] => unfold rM; simp only [chk]; split <;> (try split) <;> (try split) <;> rfl
  | a :: b :: c :: d :: r =>
    unfold rM
    simp only [chk]
    by_cases h1 : a = 83 <;> by_cases h2 : b = 84 <;> by_cases h3 : c = 88 <;> by_cases h4 : d = 49 <;> simp [h1, h2, h3, h4]
def MInv (B g : Nat) (w : World) (l : List Int) (i : Value) (wr : World) : Prop := ∃ (k : Nat) (l' : List Int), k ≤ 4 ∧ i = .int .i64 k ∧ Rd B wr g l' ∧ rM l = chk ([83, 84, 88, 49].drop k) l' ∧ Fr TR B w wr
theorem Rd.drew' {B g : Nat} {w : World} {l : List Int} (h : Rd B w g l) : Rd B w.drew g l := h
theorem Rd.drewN {B g : Nat} {w : World} {l : List Int} (h : Rd B w g l) (n : Nat) : Rd B (w.drewN n) g l := h
theorem a_require_no' (v : Bool) (hv : v = false) (w : World) : Calls Try.prog 35 #[.bool v] w fun e w' => Fails e ∧ w = w' := by
  subst hv
  exact a_require_no w
/-- Stores of the values vs from cell i of block g on. -/
def sets (w : World) (g : Nat) : Nat → List Value → World
  | _, [] => w
  | i, v :: vs => sets (w.setCell ⟨g, i, none⟩ v) g (i + 1) vs
theorem sets_heap (g : Nat) : ∀ (vs : List Value) (w : World) (i k : Nat), k ≠ g → (sets w g i vs).heap[k]? = w.heap[k]?
  | [], _, _, _, _ => rfl
  | v :: vs, w, i, k, h => (sets_heap g vs (w.setCell ⟨g, i, none⟩ v) (i + 1) k h).trans (Below.heap_setCell w ⟨g, i, none⟩ v k h)
theorem sets_size (g : Nat) : ∀ (vs : List Value) (w : World) (i : Nat), (sets w g i vs).heap.size = w.heap.size
  | [], _, _ => rfl
  | v :: vs, w, i => (sets_size g vs (w.setCell ⟨g, i, none⟩ v) (i + 1)).trans (by simp [World.setCell])
theorem sets_same (g : Nat) : ∀ (vs : List Value) (w : World) (i : Nat), (sets w g i vs).os = w.os ∧ (sets w g i vs).tape = w.tape ∧ (sets w g i vs).output = w.output
  | [], _, _ => ⟨rfl, rfl, rfl⟩
  | v :: vs, w, i => sets_same g vs (w.setCell ⟨g, i, none⟩ v) (i + 1)
theorem sets_mem (g : Nat) (t : TypeId) : ∀ (vs : List Value) (w : World) (pre old : List Value), Mem w g t (pre ++ old).toArray → old.length = vs.length → Mem (sets w g pre.length vs) g t (pre ++ vs).toArray
  | [], w, pre, old, h, hl => by
    have := List.eq_nil_of_length_eq_zero (by simpa using hl)
    subst this
    exact h
  | v :: vs, w, pre, old, h, hl => by
    cases old with
    | nil => simp at hl
    | cons o old =>
      have h1 := h.set_ pre.length v
      have e : ((pre ++ o :: old).toArray.setIfInBounds pre.length v) = ((pre ++ [v]) ++ old).toArray := by
        rw [List.setIfInBounds_toArray]
        congr 1
        rw [List.set_append_right _ _ (Nat.le_refl _)]
        simp
      rw [e] at h1
      have := sets_mem g t vs _ (pre ++ [v]) old h1 (by simpa using hl)
      simp only [List.length_append, List.length_cons, List.length_nil, List.append_assoc, List.cons_append, List.nil_append] at this
      exact this
theorem Fr.sets {T : List Nat} {B g : Nat} {a b : World} (h : Fr T B a b) (hB : B ≤ a.heap.size) (hp : a.heap.size ≤ g) (i : Nat) (vs : List Value) : Fr T B a (sets b g i vs) := by
  obtain ⟨s1, s2, s3⟩ := sets_same g vs b i
  exact ⟨s1.trans h.os, s2.trans h.tape, s3.trans h.output, by rw [sets_size]; exact h.size, fun k hk => (sets_heap g vs b i k (by omega)).trans (h.low k hk), fun k cs t fr hk ht => (sets_heap g vs b i k (by have := lt_of_some hk; omega)).trans (h.far k cs t fr hk ht)⟩
theorem Rd.sets {B g g' : Nat} {w : World} {l : List Int} (hp : B ≤ g') (hg : g ≠ g') : ∀ (vs : List Value) (w : World) (i : Nat), Rd B w g l → Rd B (sets w g' i vs) g l
  | [], _, _, h => h
  | v :: vs, w, i, h => Rd.sets (w := w) hp hg vs (w.setCell ⟨g', i, none⟩ v) (i + 1) (h.far (p := ⟨g', i, none⟩) hp hg v)

/-! ### The mark. -/
def SkIs (B g : Nat) (w : World) (l : List Int) (i : Value) (wr : World) : Prop := MInv B g w l i wr
theorem chk_ok {m : Int} {ms r : List Int} : chk (m :: ms) (m :: r) = chk ms r := by simp [chk]
theorem chk_no {m b : Int} {ms r : List Int} (h : b ≠ m) : chk (m :: ms) (b :: r) = none := by simp [chk, h]
end Go.Proofs.Ytafidppjabdecaa.CodeL
