/-
  Texts on no function: the cells of a machine as memory holds them, and what leaves them as they are.
-/
import Derived.Test.YtpjbmbipkmpkhaaCelS
namespace Go.Proofs.Ytpjbmbipkmpkhaa.CelM
open Go.RowKit
open PlainT BlkW CelS
set_option linter.unusedVariables false

/-- Nothing is turned but the blocks from lo to hi and new ones. -/
structure Stay (lo hi : Nat) (w w' : World) : Prop where
  os : w'.os = w.os
  tape : w'.tape = w.tape
  output : w'.output = w.output
  size : w.heap.size ≤ w'.heap.size
  block : ∀ g, g < w.heap.size → (g < lo ∨ hi ≤ g) → w'.heap[g]? = w.heap[g]?
section
variable {lo hi : Nat} {w w' w'' : World}
theorem Stay.refl (lo hi : Nat) (w : World) : Stay lo hi w w := ⟨rfl, rfl, rfl, Nat.le_refl _, fun _ _ _ => rfl⟩
theorem Stay.trans (h : Stay lo hi w w') (k : Stay lo hi w' w'') : Stay lo hi w w'' := ⟨k.os.trans h.os, k.tape.trans h.tape, k.output.trans h.output, Nat.le_trans h.size k.size, fun g hg hr => (k.block g (Nat.lt_of_lt_of_le hg h.size) hr).trans (h.block g hg hr)⟩
theorem Stay.of_below (h : Below w.heap.size w w') : Stay lo hi w w' := ⟨h.os, h.tape, h.output, h.size, fun g hg _ => h.block g hg⟩
theorem Stay.alloc (h : Stay lo hi w w') (o : Obj) : Stay lo hi w (w'.alloc o) := ⟨h.os, h.tape, h.output, by rw [size_new]; have := h.size; omega, fun g hg hr => (BlkW.heap_alloc_old w' o g (by have := h.size; omega)).trans (h.block g hg hr)⟩
theorem Stay.drewN (h : Stay lo hi w w') (n : Nat) : Stay lo hi w (w'.drewN n) := ⟨h.os, h.tape, h.output, h.size, h.block⟩
theorem Stay.set_ (h : Stay lo hi w w') (a : Addr) (ha : (lo ≤ a.block ∧ a.block < hi) ∨ w.heap.size ≤ a.block) (u : Value) : Stay lo hi w (w'.setCell a u) :=
  ⟨h.os, h.tape, h.output, by simpa [World.setCell] using h.size, fun g hg hr => (Below.heap_setCell w' a u g (by omega)).trans (h.block g hg hr)⟩
theorem Stay.wide {lo' hi' : Nat} (h : Stay lo hi w w') (h1 : lo' ≤ lo) (h2 : hi ≤ hi') : Stay lo' hi' w w' := ⟨h.os, h.tape, h.output, h.size, fun g hg hr => h.block g hg (by omega)⟩
theorem Stay.below (h : Stay lo hi w w') {B : Nat} (h1 : B ≤ lo) (h2 : B ≤ w.heap.size) : Below B w w' := ⟨h.os, h.tape, h.output, h.size, fun g hg => h.block g (by omega) (by omega)⟩
end

/-- Where the map's keys lead. -/
def rowsAt (g : Int → Nat) (A : Int → List Int) (k : Int) : Option Value := if 1 ≤ k ∧ k ≤ 8 then some (.slice (some ⟨g k, 0, none⟩) (A k).length (A k).length) else none
/-- The cells of a machine: block b, its map, its rows, all from lo to hi; A k: the values of the cells of kind k. -/
structure Cells (lo hi : Nat) (w : World) (b : Nat) (A : Int → List Int) (bm : Nat) (g : Int → Nat) : Prop where
  box : Mem w b TMem #[.int .i32 0, .int .u32 0, .map (some bm)]
  map : MapI w bm (rowsAt g A)
  row : ∀ k, 1 ≤ k ∧ k ≤ 8 → Row w (g k) (A k)
  apart : ∀ j k, 1 ≤ j ∧ j ≤ 8 → 1 ≤ k ∧ k ≤ 8 → g j = g k → j = k
  bIn : lo ≤ b ∧ b < hi
  mIn : lo ≤ bm ∧ bm < hi
  gIn : ∀ k, 1 ≤ k ∧ k ≤ 8 → lo ≤ g k ∧ g k < hi
  top : hi ≤ w.heap.size
  len : ∀ k, (A k).length ≤ 1000
  out : ∀ k, ¬ (1 ≤ k ∧ k ≤ 8) → A k = []
def Is (lo hi : Nat) (w : World) (b : Nat) (A : Int → List Int) : Prop := ∃ bm g, Cells lo hi w b A bm g
/-- The values with one of them turned. -/
def upd (A : Int → List Int) (k : Int) (i : Nat) (v : Int) : Int → List Int := fun j => if j = k then (A k).set i v else A j
theorem upd_len (A : Int → List Int) (k : Int) (i : Nat) (v : Int) (j : Int) : (upd A k i v j).length = (A j).length := by
  unfold upd
  split
  · rename_i h; subst h; simp
  · rfl
theorem rowsAt_upd (g : Int → Nat) (A : Int → List Int) (k : Int) (i : Nat) (v : Int) : rowsAt g (upd A k i v) = rowsAt g A := by
  funext j
  unfold rowsAt
  rw [upd_len]
section
variable {lo hi : Nat} {w w' : World} {b bm : Nat} {A : Int → List Int} {g : Int → Nat}
theorem Cells.of_blocks (h : Cells lo hi w b A bm g) (hs : hi ≤ w'.heap.size) (hb : ∀ x, lo ≤ x → x < hi → w'.heap[x]? = w.heap[x]?) : Cells lo hi w' b A bm g :=
  ⟨(hb b h.bIn.1 h.bIn.2).trans h.box, h.map.of_block (hb bm h.mIn.1 h.mIn.2), fun k hk => (hb (g k) (h.gIn k hk).1 (h.gIn k hk).2).trans (h.row k hk), h.apart, h.bIn, h.mIn, h.gIn, hs, h.len, h.out⟩
theorem Cells.stay {lo' hi' : Nat} (h : Cells lo hi w b A bm g) (k : Stay lo' hi' w w') (hd : hi ≤ lo' ∨ hi' ≤ lo) : Cells lo hi w' b A bm g :=
  h.of_blocks (Nat.le_trans h.top k.size) fun x h1 h2 => k.block x (Nat.lt_of_lt_of_le h2 h.top) (by omega)
theorem Cells.below (h : Cells lo hi w b A bm g) (k : Below w.heap.size w w') : Cells lo hi w' b A bm g :=
  h.of_blocks (Nat.le_trans h.top k.size) fun x h1 h2 => k.block x (Nat.lt_of_lt_of_le h2 h.top)
theorem Cells.alloc (h : Cells lo hi w b A bm g) (o : Obj) : Cells lo hi (w.alloc o) b A bm g := h.below (below_new w o)
theorem Cells.drewN (h : Cells lo hi w b A bm g) (n : Nat) : Cells lo hi (w.drewN n) b A bm g := h.of_blocks h.top fun _ _ _ => rfl
theorem Is.stay {lo' hi' : Nat} (h : Is lo hi w b A) (k : Stay lo' hi' w w') (hd : hi ≤ lo' ∨ hi' ≤ lo) : Is lo hi w' b A := let ⟨bm, g, h⟩ := h; ⟨bm, g, h.stay k hd⟩
theorem Is.below (h : Is lo hi w b A) (k : Below w.heap.size w w') : Is lo hi w' b A := let ⟨bm, g, h⟩ := h; ⟨bm, g, h.below k⟩
theorem Is.top (h : Is lo hi w b A) : hi ≤ w.heap.size := let ⟨_, _, h⟩ := h; h.top
theorem Cells.ne_box (h : Cells lo hi w b A bm g) {k : Int} (hk : 1 ≤ k ∧ k ≤ 8) : g k ≠ b := by
  intro e
  have h1 := h.row k hk
  have h2 := h.box
  simp only [Row, Mem] at h1 h2
  rw [e, h2] at h1
  simp at h1
  exact absurd h1.2 (by decide)
theorem Cells.ne_map (h : Cells lo hi w b A bm g) {k : Int} (hk : 1 ≤ k ∧ k ≤ 8) : g k ≠ bm := by
  intro e
  have h1 := h.row k hk
  obtain ⟨es, clock, h2, _⟩ := h.map
  simp only [Row, Mem] at h1
  rw [e, h2] at h1
  cases h1
theorem Cells.box_ne_map (h : Cells lo hi w b A bm g) : b ≠ bm := by
  intro e
  have h1 := h.box
  obtain ⟨es, clock, h2, _⟩ := h.map
  simp only [Mem] at h1
  rw [e, h2] at h1
  cases h1
/-- The lock is taken. -/
structure Held (lo hi : Nat) (w : World) (b : Nat) (A : Int → List Int) (bm : Nat) (g : Int → Nat) : Prop where
  box : Mem w b TMem #[.int .i32 1, .int .u32 0, .map (some bm)]
  map : MapI w bm (rowsAt g A)
  row : ∀ k, 1 ≤ k ∧ k ≤ 8 → Row w (g k) (A k)
  apart : ∀ j k, 1 ≤ j ∧ j ≤ 8 → 1 ≤ k ∧ k ≤ 8 → g j = g k → j = k
  bIn : lo ≤ b ∧ b < hi
  mIn : lo ≤ bm ∧ bm < hi
  gIn : ∀ k, 1 ≤ k ∧ k ≤ 8 → lo ≤ g k ∧ g k < hi
  top : hi ≤ w.heap.size
  len : ∀ k, (A k).length ≤ 1000
  out : ∀ k, ¬ (1 ≤ k ∧ k ≤ 8) → A k = []
theorem Cells.take (h : Cells lo hi w b A bm g) : Held lo hi (w.setCell ⟨b, 0, none⟩ (.int .i32 1)) b A bm g :=
  ⟨by have := h.box.set_ 0 (.int .i32 1); simpa using this, h.map.of_block (Below.heap_setCell w _ _ bm h.box_ne_map.symm), fun k hk => (h.row k hk).far (h.ne_box hk) _, h.apart, h.bIn, h.mIn, h.gIn, by simpa [World.setCell] using h.top, h.len, h.out⟩
theorem Held.ne_box (h : Held lo hi w b A bm g) {k : Int} (hk : 1 ≤ k ∧ k ≤ 8) : g k ≠ b := by
  intro e
  have h1 := h.row k hk
  have h2 := h.box
  simp only [Row, Mem] at h1 h2
  rw [e, h2] at h1
  simp at h1
  exact absurd h1.2 (by decide)
theorem Held.ne_map (h : Held lo hi w b A bm g) {k : Int} (hk : 1 ≤ k ∧ k ≤ 8) : g k ≠ bm := by
  intro e
  have h1 := h.row k hk
  obtain ⟨es, clock, h2, _⟩ := h.map
  simp only [Row, Mem] at h1
  rw [e, h2] at h1
  cases h1
theorem Held.box_ne_map (h : Held lo hi w b A bm g) : b ≠ bm := by
  intro e
  have h1 := h.box
  obtain ⟨es, clock, h2, _⟩ := h.map
  simp only [Mem] at h1
  rw [e, h2] at h1
  cases h1
theorem Held.give (h : Held lo hi w b A bm g) : Cells lo hi (w.setCell ⟨b, 0, none⟩ (.int .i32 0)) b A bm g :=
  ⟨by have := h.box.set_ 0 (.int .i32 0); simpa using this, h.map.of_block (Below.heap_setCell w _ _ bm h.box_ne_map.symm), fun k hk => (h.row k hk).far (h.ne_box hk) _, h.apart, h.bIn, h.mIn, h.gIn, by simpa [World.setCell] using h.top, h.len, h.out⟩
theorem Held.put (h : Held lo hi w b A bm g) {k : Int} (hk : 1 ≤ k ∧ k ≤ 8) (i : Nat) (v : Int) : Held lo hi (w.setCell ⟨g k, i, none⟩ (.int .u64 v)) b (upd A k i v) bm g := by
  refine ⟨h.box.far (Ne.symm (h.ne_box hk)) _, ?_, fun j hj => ?_, h.apart, h.bIn, h.mIn, h.gIn, by simpa [World.setCell] using h.top, fun j => by rw [upd_len]; exact h.len j, fun j hj => ?_⟩
  · rw [rowsAt_upd]
    exact h.map.of_block (Below.heap_setCell w _ _ bm (Ne.symm (h.ne_map hk)))
  · by_cases e : j = k
    · subst e
      have := Row.put (h.row j hj) i v
      simpa [upd] using this
    · have := (h.row j hj).far (a := ⟨g k, i, none⟩) (fun e2 => e (h.apart j k hj hk e2)) (.int .u64 v)
      simpa [upd, e] using this
  · have e : j ≠ k := fun e => hj (e ▸ hk)
    simp only [upd, if_neg e]
    exact h.out j hj
theorem Held.far (h : Held lo hi w b A bm g) {a : Addr} (ha : hi ≤ a.block) (u : Value) : Held lo hi (w.setCell a u) b A bm g :=
  ⟨h.box.far (by have := h.bIn; omega) u, h.map.of_block (Below.heap_setCell w a u bm (by have := h.mIn; omega)), fun k hk => (h.row k hk).far (by have := h.gIn k hk; omega) u, h.apart, h.bIn, h.mIn, h.gIn, by simpa [World.setCell] using h.top, h.len, h.out⟩
theorem Held.below (h : Held lo hi w b A bm g) (k : Below w.heap.size w w') : Held lo hi w' b A bm g :=
  ⟨h.box.below k h.box.lt, h.map.of_block (k.block _ h.map.lt), fun j hj => (h.row j hj).below k (h.row j hj).lt, h.apart, h.bIn, h.mIn, h.gIn, Nat.le_trans h.top k.size, h.len, h.out⟩
theorem Held.alloc (h : Held lo hi w b A bm g) (o : Obj) : Held lo hi (w.alloc o) b A bm g := h.below (below_new w o)
theorem Held.drewN (h : Held lo hi w b A bm g) (n : Nat) : Held lo hi (w.drewN n) b A bm g := ⟨h.box, h.map.of_block rfl, h.row, h.apart, h.bIn, h.mIn, h.gIn, h.top, h.len, h.out⟩
/-- What a look-up finds. -/
theorem Held.look (h : Held lo hi w b A bm g) (k : Int) : (Instr.lookup TMap (.map (some bm)) (.int .i64 k) false).run Try.prog w = .ok (if 1 ≤ k ∧ k ≤ 8 then .slice (some ⟨g k, 0, none⟩) (A k).length (A k).length else .slice none 0 0) w := by
  rw [h.map.look]
  unfold rowsAt
  split <;> rfl
end
/-- An access. -/
abbrev accV (kind cell index got put : Int) (done : Bool) : Value := .agg #[.int .i64 kind, .int .i64 cell, .int .i64 index, .int .u64 got, .int .u64 put, .bool done]
end Go.Proofs.Ytpjbmbipkmpkhaa.CelM
