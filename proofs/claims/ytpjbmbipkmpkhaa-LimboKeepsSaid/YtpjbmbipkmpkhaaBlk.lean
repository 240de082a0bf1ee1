/-
  Texts on no program: what one block of memory holds (cells of the call's own; a string's iterator), and that it stays through draws, new blocks, stores elsewhere and calls that leave old blocks alone.
-/
import Derived.Test.YtpjbmbipkmpkhaaPlainT
import Derived.WalkKit
import Derived.Below
import Derived.Laws.RangeAny
import Derived.Lib.OthersKept
namespace Go.Proofs.Ytpjbmbipkmpkhaa.BlkW
open Go.RowKit
open PlainT
set_option linter.unusedVariables false

/-- Block g is just the cells cs of type t, none of them frozen. -/
def Mem (w : World) (g : Nat) (t : TypeId) (cs : Array Value) : Prop := w.heap[g]? = some (.cells cs t (0, 0))
/-- Block g is the iterator of the string s at place p. -/
def It (w : World) (g : Nat) (s : ByteArray) (p : Nat) : Prop := w.heap[g]? = some (.stringIter s p)
section
variable {w w' : World} {g : Nat} {t : TypeId} {cs : Array Value} {s : ByteArray} {p : Nat}
theorem lt_of_some {o : Obj} (h : w.heap[g]? = some o) : g < w.heap.size := (Array.getElem?_eq_some_iff.1 h).1
theorem heap_alloc_new (w : World) (o : Obj) : (w.alloc o).heap[w.heap.size]? = some o := by
  show (w.heap.push o)[w.heap.size]? = _
  simp
theorem heap_alloc_old (w : World) (o : Obj) (i : Nat) (h : i < w.heap.size) : (w.alloc o).heap[i]? = w.heap[i]? := by
  show (w.heap.push o)[i]? = _
  rw [Array.getElem?_push, if_neg (by omega)]
theorem Mem.lt (h : Mem w g t cs) : g < w.heap.size := lt_of_some h
theorem Mem.cell (h : Mem w g t cs) (i : Nat) : w.cell? ⟨g, i, none⟩ = cs[i]? := by
  unfold Mem at h
  simp [World.cell?, h]
theorem Mem.frozen (h : Mem w g t cs) (i : Nat) : w.frozen? ⟨g, i, none⟩ = false := by
  unfold Mem at h
  simp [World.frozen?, h]
theorem Mem.new (w : World) (t : TypeId) (cs : Array Value) : Mem (w.alloc (.cells cs t)) w.heap.size t cs := heap_alloc_new w _
theorem Mem.alloc (h : Mem w g t cs) (o : Obj) : Mem (w.alloc o) g t cs := (heap_alloc_old w o g h.lt).trans h
theorem Mem.drewN (h : Mem w g t cs) (n : Nat) : Mem (w.drewN n) g t cs := h
theorem Mem.old (h : Mem w g t cs) (k : Old w w') : Mem w' g t cs := (k.2 g h.lt).trans h
theorem Mem.below {B : Nat} (h : Mem w g t cs) (k : Below B w w') (hg : g < B) : Mem w' g t cs := (k.block g hg).trans h
theorem Mem.set_ (h : Mem w g t cs) (i : Nat) (u : Value) : Mem (w.setCell ⟨g, i, none⟩ u) g t (cs.setIfInBounds i u) := by
  unfold Mem at h ⊢
  simp [World.setCell, Array.getElem?_modify, h]
theorem Mem.far (h : Mem w g t cs) {a : Addr} (ha : g ≠ a.block) (u : Value) : Mem (w.setCell a u) g t cs := (Below.heap_setCell w a u g ha).trans h
theorem Mem.iterAt {k q : Nat} (h : Mem w g t cs) (hk : g ≠ k) : Mem (w.iterAt k s q) g t cs := (Lib.iterAt_other w k g s q hk).trans h
theorem It.lt (h : It w g s p) : g < w.heap.size := lt_of_some h
theorem It.new (w : World) (s : ByteArray) : It (w.alloc (.stringIter s 0)) w.heap.size s 0 := heap_alloc_new w _
theorem It.alloc (h : It w g s p) (o : Obj) : It (w.alloc o) g s p := (heap_alloc_old w o g h.lt).trans h
theorem It.drewN (h : It w g s p) (n : Nat) : It (w.drewN n) g s p := h
theorem It.old (h : It w g s p) (k : Old w w') : It w' g s p := (k.2 g h.lt).trans h
theorem It.below {B : Nat} (h : It w g s p) (k : Below B w w') (hg : g < B) : It w' g s p := (k.block g hg).trans h
theorem It.far (h : It w g s p) {a : Addr} (ha : g ≠ a.block) (u : Value) : It (w.setCell a u) g s p := (Below.heap_setCell w a u g ha).trans h
theorem It.on (h : It w g s p) (q : Nat) : It (w.iterAt g s q) g s q := Lib.iterAt_heap w g s p q h
theorem It.pos (h : It w g s p) : w.iterPos g = p := by
  unfold It at h
  simp only [World.iterPos, h]
end
theorem below_iter {B : Nat} {a w : World} (h : Below B a w) {k : Nat} (hk : B ≤ k) (s : ByteArray) (q : Nat) : Below B a (w.iterAt k s q) := Lib.below_iterAt h hk s q
theorem below_drewN {B : Nat} {a w : World} (h : Below B a w) (n : Nat) : Below B a (w.drewN n) := ⟨h.os, h.tape, h.output, h.size, h.block⟩
theorem below_new (w : World) (o : Obj) : Below w.heap.size w (w.alloc o) := (Below.refl _ _).alloc (Nat.le_refl _) _
theorem size_new (w : World) (o : Obj) : (w.alloc o).heap.size = w.heap.size + 1 := by
  show (w.heap.push o).size = _
  rw [Array.size_push]
theorem below_new2 (w : World) (o p : Obj) : Below w.heap.size w ((w.alloc o).alloc p) := (below_new w o).alloc (by rw [size_new]; omega) _
theorem below_new3 (w : World) (o p q : Obj) : Below w.heap.size w (((w.alloc o).alloc p).alloc q) := (below_new2 w o p).alloc (by rw [size_new, size_new]; omega) _
theorem below_new4 (w : World) (o p q r : Obj) : Below w.heap.size w ((((w.alloc o).alloc p).alloc q).alloc r) := (below_new3 w o p q).alloc (by rw [size_new, size_new, size_new]; omega) _
theorem it_new (w : World) (s : ByteArray) : It (w.iter s 0) w.heap.size s 0 := It.new w s
theorem it_new1 (w : World) (o : Obj) (s : ByteArray) : It ((w.alloc o).iter s 0) (w.heap.size + 1) s 0 := by
  have := it_new (w.alloc o) s
  rwa [size_new] at this
theorem it_new2 (w : World) (o p : Obj) (s : ByteArray) : It (((w.alloc o).alloc p).iter s 0) (w.heap.size + 2) s 0 := by
  have := it_new ((w.alloc o).alloc p) s
  rwa [size_new, size_new] at this
theorem it_new3 (w : World) (o p q : Obj) (s : ByteArray) : It ((((w.alloc o).alloc p).alloc q).iter s 0) (w.heap.size + 3) s 0 := by
  have := it_new (((w.alloc o).alloc p).alloc q) s
  rwa [size_new, size_new, size_new] at this
theorem mem_new1 (w : World) (o : Obj) (t : TypeId) (cs : Array Value) : Mem ((w.alloc o).alloc (.cells cs t)) (w.heap.size + 1) t cs := by
  have := Mem.new (w.alloc o) t cs
  rwa [size_new] at this
theorem mem_new2 (w : World) (o p : Obj) (t : TypeId) (cs : Array Value) : Mem (((w.alloc o).alloc p).alloc (.cells cs t)) (w.heap.size + 2) t cs := by
  have := Mem.new ((w.alloc o).alloc p) t cs
  rwa [size_new, size_new] at this
theorem kept_below {w w' : World} (h : Below w.heap.size w w') : LawFrame.Kept w w' := .of_below h
end Go.Proofs.Ytpjbmbipkmpkhaa.BlkW
