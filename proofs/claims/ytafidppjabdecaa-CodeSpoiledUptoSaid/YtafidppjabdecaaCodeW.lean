/-
  Texts on no function: what stays where a call writes to blocks of some types alone, and to blocks of its own.
-/
import Derived.Test.YtafidppjabdecaaCodeS
import Derived.Test.YtafidppjabdecaaBlk
import Derived.Laws.AppendOwn
import Derived.Lib.Hide
import Derived.Test.YtafidppjabdecaaRows
namespace Go.Proofs.Ytafidppjabdecaa.CodeW
open Go.ChangeShapes Go.WideShapes Go.ChangeAt Go.RowKit
open PlainT BlkW LawFrame CodeS
set_option linter.unusedVariables false

/-- Below block B nothing has changed, and no block of cells whose type is not in T. -/
structure Fr (T : List Nat) (B : Nat) (w w' : World) : Prop where
  os : w'.os = w.os
  tape : w'.tape = w.tape
  output : w'.output = w.output
  size : w.heap.size ≤ w'.heap.size
  low : ∀ k : Nat, k < B → w'.heap[k]? = w.heap[k]?
  far : ∀ (k : Nat) (cs : Array Value) (t : TypeId) (fr : Nat × Nat), w.heap[k]? = some (.cells cs t fr) → t ∉ T → w'.heap[k]? = some (.cells cs t fr)
section
variable {T T' : List Nat} {B B' : Nat} {a b w w' : World}
theorem Fr.refl (T : List Nat) (B : Nat) (w : World) : Fr T B w w := ⟨rfl, rfl, rfl, Nat.le_refl _, fun _ _ => rfl, fun _ _ _ _ h _ => h⟩
theorem Fr.trans {c : World} (h : Fr T B a b) (k : Fr T B b c) : Fr T B a c :=
  ⟨k.os.trans h.os, k.tape.trans h.tape, k.output.trans h.output, Nat.le_trans h.size k.size, fun i hi => (k.low i hi).trans (h.low i hi), fun i cs t fr hi ht => k.far i cs t fr (h.far i cs t fr hi ht) ht⟩
theorem Fr.mono (h : Fr T B a b) (hT : ∀ t, t ∈ T → t ∈ T') (hB : B' ≤ B) : Fr T' B' a b :=
  ⟨h.os, h.tape, h.output, h.size, fun i hi => h.low i (by omega), fun i cs t fr hi ht => h.far i cs t fr hi (fun e => ht (hT t e))⟩
theorem Fr.below (h : Fr T B a b) : Below B a b := ⟨h.os, h.tape, h.output, h.size, h.low⟩
theorem Fr.of_below (h : Below a.heap.size a b) (hB : B ≤ a.heap.size) : Fr T B a b :=
  ⟨h.os, h.tape, h.output, h.size, fun k hk => h.block k (by omega), fun k cs t fr hk _ => (h.block k (lt_of_some hk)).trans hk⟩
theorem Fr.drewN (h : Fr T B a b) (n : Nat) : Fr T B a (b.drewN n) := ⟨h.os, h.tape, h.output, h.size, h.low, h.far⟩
theorem Fr.drew (h : Fr T B a b) : Fr T B a b.drew := ⟨h.os, h.tape, h.output, h.size, h.low, h.far⟩
theorem Fr.alloc (h : Fr T B a b) (hB : B ≤ b.heap.size) (o : Obj) : Fr T B a (b.alloc o) := h.trans (.of_below (below_new b o) hB)
theorem Fr.setCell {cs : Array Value} {t : TypeId} {fr : Nat × Nat} {p : Addr} (h : Fr T B a b) (hp : B ≤ p.block) (hm : b.heap[p.block]? = some (.cells cs t fr)) (ht : t ∈ T) (u : Value) : Fr T B a (b.setCell p u) := by
  refine h.trans ⟨rfl, rfl, rfl, by simp [World.setCell], fun k hk => Below.heap_setCell _ _ _ _ (by omega), fun k cs' t' fr' hk ht' => ?_⟩
  rw [Below.heap_setCell _ _ _ _ (fun e => ?_)]
  · exact hk
  · subst e
    rw [hm] at hk
    injection hk with hk
    injection hk with _ e2
    exact ht' (e2 ▸ ht)
theorem Fr.grown {row : Option Nat} (h : Fr T B a b) (hg : b.grownBy w' row) (hB : B ≤ b.heap.size) (hr : ∀ k, row = some k → B ≤ k ∧ ∃ (cs : Array Value) (t : TypeId) (fr : Nat × Nat), b.heap[k]? = some (.cells cs t fr) ∧ t ∈ T) : Fr T B a w' := by
  refine h.trans ⟨hg.os, hg.tape, hg.output, hg.size, fun k hk => hg.block k (by omega) (fun e => by have := (hr k e.symm).1; omega), fun k cs t fr hk ht => ?_⟩
  rw [hg.block k (lt_of_some hk) (fun e => ?_)]
  · exact hk
  · obtain ⟨_, cs', t', fr', hk', ht'⟩ := hr k e.symm
    rw [hk] at hk'
    injection hk' with hk'
    injection hk' with _ e2
    exact ht (e2 ▸ ht')
end
section
variable {T : List Nat} {B : Nat} {a b : World}
theorem Fr.setNew {p : Addr} (h : Fr T B a b) (hB : B ≤ a.heap.size) (hp : a.heap.size ≤ p.block) (u : Value) : Fr T B a (b.setCell p u) :=
  ⟨h.os, h.tape, h.output, by simp only [World.setCell, Array.size_modify]; exact h.size, fun k hk => (Below.heap_setCell _ _ _ _ (by omega)).trans (h.low k hk), fun k cs t fr hk ht => (Below.heap_setCell _ _ _ _ (by have := lt_of_some hk; omega)).trans (h.far k cs t fr hk ht)⟩
theorem Fr.grownNew {w' : World} {row : Option Nat} (h : Fr T B a b) (hB : B ≤ a.heap.size) (hg : b.grownBy w' row) (hr : ∀ k, row = some k → a.heap.size ≤ k) : Fr T B a w' :=
  ⟨hg.os.trans h.os, hg.tape.trans h.tape, hg.output.trans h.output, Nat.le_trans h.size hg.size, fun k hk => (hg.block k (by have := h.size; omega) (fun e => by have := hr k e.symm; omega)).trans (h.low k hk),
    fun k cs t fr hk ht => (hg.block k (by have := h.size; have := lt_of_some hk; omega) (fun e => by have := hr k e.symm; have := lt_of_some hk; omega)).trans (h.far k cs t fr hk ht)⟩
end
theorem Mem.fr {T : List Nat} {B g : Nat} {t : TypeId} {cs : Array Value} {w w' : World} (h : Mem w g t cs) (k : Fr T B w w') (ht : t ∉ T) : Mem w' g t cs := k.far g cs t (0, 0) h ht
section
variable {w w' : World} {base size n : Nat} {e : TypeId} {v : Value} {xs : List Value}
theorem own_of_block (h : w.ownsRow base e size v n xs) (hb : ∀ g, v.ownBlock = some g → w'.heap[g]? = w.heap[g]?) : w'.ownsRow base e size v n xs := by
  refine ⟨h.1, ?_⟩
  rcases h.2 with hn | ⟨g, cap, cur, rfl, h1, h2, h3⟩
  · exact .inl hn
  · exact .inr ⟨g, cap, cur, rfl, h1, (hb g rfl).trans h2, h3⟩
theorem own_fr {T : List Nat} {B : Nat} (h : w.ownsRow base e size v n xs) (k : Fr T B w w') (ht : e ∉ T) : w'.ownsRow base e size v n xs := by
  refine ⟨h.1, ?_⟩
  rcases h.2 with hn | ⟨g, cap, cur, rfl, h1, h2, h3⟩
  · exact .inl hn
  · exact .inr ⟨g, cap, cur, rfl, h1, k.far g cur e (0, 0) h2 ht, h3⟩
theorem own_old (h : w.ownsRow base e size v n xs) (o : Old w w') : w'.ownsRow base e size v n xs := own_of_block h fun g hg => o.2 g (h.lt g hg).2
theorem own_drewN (h : w.ownsRow base e size v n xs) (k : Nat) : (w.drewN k).ownsRow base e size v n xs := h
theorem own_far (h : w.ownsRow base e size v n xs) {a : Addr} (ha : v.ownBlock ≠ some a.block) (u : Value) : (w.setCell a u).ownsRow base e size v n xs :=
  own_of_block h fun g hg => Below.heap_setCell w a u g (fun e0 => ha (by rw [hg, e0]))
theorem own_slice (h : w.ownsRow base e size v n xs) : ∃ A c, v = .slice A n c ∧ n ≤ c ∧ c ≤ maxLen := by
  rcases h.2 with ⟨rfl, rfl⟩ | ⟨g, cap, cur, rfl, _, _, h3, h4, _⟩
  · exact ⟨none, 0, rfl, Nat.le_refl _, Nat.zero_le _⟩
  · exact ⟨_, _, rfl, h3, h4⟩
theorem own_cellAt {g cap : Nat} (h : w.ownsRow base e size (.slice (some ⟨g, 0, none⟩) n cap) n xs) (j : Nat) (hj : j < n * size) : w.cell? ⟨g, j, none⟩ = xs[j]? := by
  have hx : xs[j]? = some (xs[j]'(by rw [h.1]; exact hj)) := List.getElem?_eq_getElem _
  have := h.cells (g := g) rfl j _ hx
  have hadd : (⟨g, 0, none⟩ : Addr).add j = ⟨g, j, none⟩ := by unfold Addr.add; split <;> simp_all
  rw [hadd] at this
  rw [this, hx]
theorem own_cells (h : w.ownsRow base e size v n xs) (hn : 0 < n) : ∃ g cap cur, v = .slice (some ⟨g, 0, none⟩) n cap ∧ base ≤ g ∧ w.heap[g]? = some (.cells cur e (0, 0)) ∧ g < w.heap.size ∧ ∀ j, j < n * size → w.cell? ⟨g, j, none⟩ = xs[j]? := by
  rcases h.2 with ⟨rfl, rfl⟩ | ⟨g, cap, cur, rfl, h1, h2, h3⟩
  · omega
  · exact ⟨g, cap, cur, rfl, h1, h2, lt_of_some h2, fun j hj => own_cellAt h j hj⟩
theorem own_ne {t : TypeId} {cs : Array Value} {g : Nat} {fr : Nat × Nat} (h : w.ownsRow base e size v n xs) (hg : w.heap[g]? = some (.cells cs t fr)) (hne : e ≠ t) : v.ownBlock ≠ some g := by
  rcases h.2 with ⟨rfl, _⟩ | ⟨g', cap, cur, rfl, _, hh, _⟩
  · simp [Value.ownBlock]
  · intro he
    have : g' = g := by simpa [Value.ownBlock] using he
    subst this
    rw [hh] at hg
    injection hg with hg
    injection hg with _ ht
    exact hne ht
theorem own_ne_mem {t : TypeId} {cs : Array Value} {g : Nat} (h : w.ownsRow base e size v n xs) (hg : Mem w g t cs) (hne : e ≠ t) : v.ownBlock ≠ some g := own_ne h (fr := (0, 0)) hg hne
theorem own_row (h : w.ownsRow base e size v n xs) : ∀ k, v.ownBlock = some k → base ≤ k ∧ ∃ (cs : Array Value) (t : TypeId) (fr : Nat × Nat), w.heap[k]? = some (.cells cs t fr) ∧ t = e := by
  intro k hk
  rcases h.2 with ⟨rfl, _⟩ | ⟨g, cap, cur, rfl, h1, h2, _⟩
  · simp [Value.ownBlock] at hk
  · simp [Value.ownBlock] at hk
    subst hk
    exact ⟨h1, cur, e, (0, 0), h2, rfl⟩
theorem own_mono {base' : Nat} (h : w.ownsRow base e size v n xs) (hb : base' ≤ base) : w.ownsRow base' e size v n xs := by
  refine ⟨h.1, ?_⟩
  rcases h.2 with hn | ⟨g, cap, cur, rfl, h1, h2⟩
  · exact .inl hn
  · exact .inr ⟨g, cap, cur, rfl, Nat.le_trans hb h1, h2⟩
end
theorem cell_lit {W : World} {T : TypeId} {l : List Value} : ∀ (j : Nat) u, l[j]? = some u → (W.alloc (.cells l.toArray T)).cell? ((⟨W.heap.size, 0, none⟩ : Addr).add j) = some u := by
  intro j u hu
  have e : (⟨W.heap.size, 0, none⟩ : Addr).add j = ⟨W.heap.size, j, none⟩ := by
    unfold Addr.add
    split
    · rename_i h; rw [h]
    · simp
  rw [e, (Mem.new W T l.toArray).cell j]
  simpa using hu

/-- A slice of integers that stays while blocks of types in T, and blocks from B on that are of such types, are written. -/
def Stay (T : List Nat) (B : Nat) (w : World) (A : Option Addr) : Prop := ∀ a, A = some a → a.block < B ∨ ∃ (cs : Array Value) (t : TypeId) (fr : Nat × Nat), w.heap[a.block]? = some (.cells cs t fr) ∧ t ∉ T
theorem Stay.fr {T : List Nat} {B : Nat} {w w' : World} {A : Option Addr} (h : Stay T B w A) (k : Fr T B w w') : Stay T B w' A := by
  intro a ha
  rcases h a ha with h1 | ⟨cs, t, fr, h1, h2⟩
  · exact .inl h1
  · exact .inr ⟨cs, t, fr, k.far _ cs t fr h1 h2, h2⟩
theorem Stay.low {T : List Nat} {B : Nat} {w : World} {A : Option Addr} (h : ∀ a, A = some a → a.block < B) : Stay T B w A := fun a ha => .inl (h a ha)
theorem Stay.mem {T : List Nat} {B : Nat} {w : World} {g o : Nat} {t : TypeId} {cs : Array Value} (h : Mem w g t cs) (ht : t ∉ T) : Stay T B w (some ⟨g, o, none⟩) := by
  intro a ha
  cases ha
  exact .inr ⟨cs, t, (0, 0), h, ht⟩
theorem Stay.same {T : List Nat} {B : Nat} {w w' : World} {b : Nat} {o : Nat} (h : Stay T B w (some ⟨b, o, none⟩)) (k : Fr T B w w') : w'.heap[b]? = w.heap[b]? := by
  rcases h _ rfl with h1 | ⟨cs, t, fr, h1, h2⟩
  · exact k.low b h1
  · rw [k.far b cs t fr h1 h2]; exact h1.symm
theorem Ints.fr {T : List Nat} {B : Nat} {w w' : World} {k : IntKind} {A : Option Addr} {n : Nat} {z : List Int} (h : Ints k w A n z) (hs : 0 < n → Stay T B w A) (f : Fr T B w w') : Ints k w' A n z := by
  refine ⟨h.1, h.2.1, fun hn => ?_⟩
  obtain ⟨b, off, rfl, hb, hc⟩ := h.2.2 hn
  refine ⟨b, off, rfl, Nat.lt_of_lt_of_le hb f.size, fun i hi => ?_⟩
  rw [World.cell?_of_block (w := w) ((hs hn).same f)]
  exact hc i hi
/-- The cell of element i. -/
theorem Ints.at {w : World} {k : IntKind} {A : Option Addr} {n : Nat} {z : List Int} (h : Ints k w A n z) {i : Nat} (hi : i < n) : ∃ b off x, A = some ⟨b, off, none⟩ ∧ b < w.heap.size ∧ w.cell? ⟨b, off + i, none⟩ = some (.int k x) ∧ z[i]? = some x ∧ (Lit.int k x).wf = true := by
  obtain ⟨b, off, rfl, hb, hc⟩ := h.2.2 (by omega)
  have hz : z[i]? = some (z[i]'(by rw [h.1]; exact hi)) := List.getElem?_eq_getElem _
  refine ⟨b, off, _, rfl, hb, ?_, hz, h.2.1 _ (List.getElem_mem _)⟩
  rw [hc i hi, List.getD_eq_getElem?_getD, hz]
  rfl
theorem Ints.alloc {w : World} {k : IntKind} {A : Option Addr} {n : Nat} {z : List Int} (h : Ints k w A n z) (o : Obj) : Ints k (w.alloc o) A n z := by
  refine ⟨h.1, h.2.1, fun hn => ?_⟩
  obtain ⟨b, off, rfl, hb, hc⟩ := h.2.2 hn
  exact ⟨b, off, rfl, by rw [size_new]; omega, fun i hi => by rw [World.cell?_of_block (w := w) (BlkW.heap_alloc_old w o b hb)]; exact hc i hi⟩
theorem Stay.alloc {T : List Nat} {B : Nat} {w : World} {A : Option Addr} (h : Stay T B w A) (o : Obj) : Stay T B (w.alloc o) A := by
  intro a ha
  rcases h a ha with h1 | ⟨cs, t, fr, h1, h2⟩
  · exact .inl h1
  · exact .inr ⟨cs, t, fr, (BlkW.heap_alloc_old w o _ (lt_of_some h1)).trans h1, h2⟩
/-- A slice of instructions, five cells each. -/
def PRow (w : World) (A : Option Addr) (n : Nat) (p : List (List Int)) : Prop :=
  p.length = n ∧ (∀ i ∈ p, InsOk i) ∧ (0 < n → ∃ b off : Nat, A = some ⟨b, off, none⟩ ∧ b < w.heap.size ∧ ∀ i j, i < n → j < 5 → w.cell? ⟨b, off + i * 5 + j, none⟩ = some (.int .i64 ((p.getD i []).getD j 0)))
theorem PRow.fr {T : List Nat} {B : Nat} {w w' : World} {A : Option Addr} {n : Nat} {p : List (List Int)} (h : PRow w A n p) (hs : 0 < n → Stay T B w A) (f : Fr T B w w') : PRow w' A n p := by
  refine ⟨h.1, h.2.1, fun hn => ?_⟩
  obtain ⟨b, off, rfl, hb, hc⟩ := h.2.2 hn
  exact ⟨b, off, rfl, Nat.lt_of_lt_of_le hb f.size, fun i j hi hj => by rw [World.cell?_of_block (w := w) ((hs hn).same f)]; exact hc i j hi hj⟩
theorem PRow.old {w w' : World} {A : Option Addr} {n : Nat} {p : List (List Int)} (h : PRow w A n p) (k : Old w w') : PRow w' A n p := by
  refine ⟨h.1, h.2.1, fun hn => ?_⟩
  obtain ⟨b, off, rfl, hb, hc⟩ := h.2.2 hn
  exact ⟨b, off, rfl, Nat.lt_of_lt_of_le hb k.1, fun i j hi hj => by rw [World.cell?_of_block (w := w) (k.2 b hb)]; exact hc i j hi hj⟩
theorem PRow.at {w : World} {A : Option Addr} {n : Nat} {p : List (List Int)} (h : PRow w A n p) {i : Nat} (hi : i < n) : ∃ b off x0 x1 x2 x3 x4, A = some ⟨b, off, none⟩ ∧ b < w.heap.size ∧ p[i]? = some [x0, x1, x2, x3, x4] ∧ (InI x0 ∧ InI x1 ∧ InI x2 ∧ InI x3 ∧ InI x4) ∧
    w.cell? ⟨b, off + i * 5, none⟩ = some (.int .i64 x0) ∧ w.cell? ⟨b, off + i * 5 + 1, none⟩ = some (.int .i64 x1) ∧ w.cell? ⟨b, off + i * 5 + 2, none⟩ = some (.int .i64 x2) ∧ w.cell? ⟨b, off + i * 5 + 3, none⟩ = some (.int .i64 x3) ∧ w.cell? ⟨b, off + i * 5 + 4, none⟩ = some (.int .i64 x4) := by
  obtain ⟨b, off, rfl, hb, hc⟩ := h.2.2 (by omega)
  have hz : p[i]? = some (p[i]'(by rw [h.1]; exact hi)) := List.getElem?_eq_getElem _
  obtain ⟨hl, hok⟩ := h.2.1 _ (List.getElem_mem (by rw [h.1]; exact hi : i < p.length))
  have hg : p.getD i [] = p[i]'(by rw [h.1]; exact hi) := by rw [List.getD_eq_getElem?_getD, hz]; rfl
  have hc' : ∀ j, j < 5 → w.cell? ⟨b, off + i * 5 + j, none⟩ = some (.int .i64 ((p.getD i []).getD j 0)) := fun j hj => hc i j hi hj
  rw [hz]
  generalize p[i]'(by rw [h.1]; exact hi) = q at hl hok hg
  rw [hg] at hc'
  match q, hl with
  | [x0, x1, x2, x3, x4], _ =>
    exact ⟨b, off, x0, x1, x2, x3, x4, rfl, hb, rfl, ⟨hok _ (by simp), hok _ (by simp), hok _ (by simp), hok _ (by simp), hok _ (by simp)⟩, hc' 0 (by omega), hc' 1 (by omega), hc' 2 (by omega), hc' 3 (by omega), hc' 4 (by omega)⟩
/-- A slice of slices of instructions; all of it in blocks below B. -/
def PPRow (w : World) (B : Nat) (A : Option Addr) (n : Nat) (ps : List (List (List Int))) : Prop :=
  ps.length = n ∧ (0 < n → ∃ b off : Nat, A = some ⟨b, off, none⟩ ∧ b < B ∧ b < w.heap.size ∧ ∀ i, i < n → ∃ Ai ni ci, w.cell? ⟨b, off + i, none⟩ = some (.slice Ai ni ci) ∧ ni ≤ ci ∧ ci ≤ maxLen ∧ PRow w Ai ni (ps.getD i []) ∧ (0 < ni → ∀ a, Ai = some a → a.block < B))
theorem PPRow.fr {T : List Nat} {B : Nat} {w w' : World} {A : Option Addr} {n : Nat} {ps : List (List (List Int))} (h : PPRow w B A n ps) (f : Fr T B w w') : PPRow w' B A n ps := by
  refine ⟨h.1, fun hn => ?_⟩
  obtain ⟨b, off, rfl, hB, hb, hc⟩ := h.2 hn
  refine ⟨b, off, rfl, hB, Nat.lt_of_lt_of_le hb f.size, fun i hi => ?_⟩
  obtain ⟨Ai, ni, ci, h1, h2, h3, h4, h5⟩ := hc i hi
  exact ⟨Ai, ni, ci, by rw [World.cell?_of_block (w := w) (f.low b hB)]; exact h1, h2, h3, h4.fr (fun h0 => Stay.low (h5 h0)) f, h5⟩
theorem PPRow.at {w : World} {B : Nat} {A : Option Addr} {n : Nat} {ps : List (List (List Int))} (h : PPRow w B A n ps) {i : Nat} (hi : i < n) : ∃ b off Ai ni ci p, A = some ⟨b, off, none⟩ ∧ b < w.heap.size ∧ ps[i]? = some p ∧ w.cell? ⟨b, off + i, none⟩ = some (.slice Ai ni ci) ∧ ni ≤ ci ∧ ci ≤ maxLen ∧ PRow w Ai ni p ∧ (0 < ni → ∀ a, Ai = some a → a.block < B) := by
  obtain ⟨b, off, rfl, hB, hb, hc⟩ := h.2 (by omega)
  obtain ⟨Ai, ni, ci, h1, h2, h3, h4, h5⟩ := hc i hi
  have hz : ps[i]? = some (ps[i]'(by rw [h.1]; exact hi)) := List.getElem?_eq_getElem _
  refine ⟨b, off, Ai, ni, ci, _, rfl, hb, hz, h1, h2, h3, ?_, h5⟩
  rw [List.getD_eq_getElem?_getD, hz] at h4
  exact h4
/-- A literal slice of integers in a new block. -/
theorem ints_lit (k : IntKind) (W : World) (t : TypeId) (l : List Int) (n : Nat) (hn : l.length = n) (hw : ∀ x ∈ l, (Lit.int k x).wf = true) : Ints k (W.alloc (.cells (l.map (Value.int k)).toArray t)) (some ⟨W.heap.size, 0, none⟩) n l := by
  refine ⟨hn, hw, fun h0 => ⟨W.heap.size, 0, rfl, by rw [size_new]; omega, fun i hi => ?_⟩⟩
  rw [(Mem.new W t _).cell]
  have : i < l.length := by omega
  simp [this]

/-! ### A row of bytes of the call's own (a literal's row too, whose end bears the run-time's mark). -/
theorem info_byte : (Try.prog.info? 5).map (fun i => (i.zero, i.size, i.bytes)) = some (some (.int .u8 0), 1, 1) := by kernel_rfl
def bC (xs : List Int) : List Value := xs.map (Value.int .u8)
def Rw (B : Nat) (w : World) (v : Value) (xs : List Int) : Prop :=
  w.ownsRow B 5 1 v xs.length (bC xs) ∨ ((0 < xs.length ∧ xs.length ≤ 4) ∧ ∃ (b : Nat) (cur : Array Value) (fr : Nat × Nat), v = .slice (some ⟨b, 0, none⟩) xs.length xs.length ∧ B ≤ b ∧ w.heap[b]? = some (.cells cur 5 fr) ∧ cur.toList = bC xs ∧ xs.length ≤ maxLen)
section
variable {B : Nat} {w w' : World} {v : Value} {xs : List Int}
theorem Rw.slice (h : Rw B w v xs) : ∃ A c, v = .slice A xs.length c ∧ xs.length ≤ c ∧ c ≤ maxLen := by
  rcases h with h | ⟨_, b, cur, fr, rfl, _, _, _, hm⟩
  · exact own_slice h
  · exact ⟨_, _, rfl, Nat.le_refl _, hm⟩
theorem Rw.row (h : Rw B w v xs) : ∀ k, v.ownBlock = some k → B ≤ k ∧ ∃ (cs : Array Value) (t : TypeId) (fr : Nat × Nat), w.heap[k]? = some (.cells cs t fr) ∧ t = 5 := by
  rcases h with h | ⟨_, b, cur, fr, rfl, hb, hh, _⟩
  · exact own_row h
  · intro k hk
    simp [Value.ownBlock] at hk
    subst hk
    exact ⟨hb, cur, _, fr, hh, rfl⟩
theorem Rw.of_block (h : Rw B w v xs) (hb : ∀ g, v.ownBlock = some g → w'.heap[g]? = w.heap[g]?) : Rw B w' v xs := by
  rcases h with h | ⟨h0, b, cur, fr, rfl, h1, hh, h2⟩
  · exact .inl (own_of_block h hb)
  · exact .inr ⟨h0, b, cur, fr, rfl, h1, (hb b rfl).trans hh, h2⟩
theorem Rw.old (h : Rw B w v xs) (k : Old w w') : Rw B w' v xs := h.of_block fun g hg => k.2 g (by obtain ⟨_, cs, t, fr, hh, _⟩ := h.row g hg; exact lt_of_some hh)
theorem Rw.fr {T : List Nat} {B' : Nat} (h : Rw B w v xs) (k : Fr T B' w w') (ht : 5 ∉ T) : Rw B w' v xs := h.of_block fun g hg => by
  obtain ⟨_, cs, t, fr, hh, rfl⟩ := h.row g hg
  rw [hh, k.far g cs _ fr hh ht]
theorem Rw.ne (h : Rw B w v xs) {t : TypeId} {cs : Array Value} {g : Nat} {fr : Nat × Nat} (hg : w.heap[g]? = some (.cells cs t fr)) (hne : 5 ≠ t) : v.ownBlock ≠ some g := by
  intro e
  obtain ⟨_, cs', t', fr', hh, rfl⟩ := h.row g e
  rw [hh] at hg
  injection hg with hg
  injection hg with _ e2
  exact hne e2
theorem Rw.far (h : Rw B w v xs) {a : Addr} (ha : v.ownBlock ≠ some a.block) (u : Value) : Rw B (w.setCell a u) v xs :=
  h.of_block fun g hg => Below.heap_setCell w a u g (fun e0 => ha (by rw [hg, e0]))
theorem Rw.mono {B' : Nat} (h : Rw B w v xs) (hb : B' ≤ B) : Rw B' w v xs := by
  rcases h with h | ⟨h0, b, cur, fr, rfl, h1, h2⟩
  · exact .inl (own_mono h hb)
  · exact .inr ⟨h0, b, cur, fr, rfl, Nat.le_trans hb h1, h2⟩
theorem Rw.cells (h : Rw B w v xs) (hn : 0 < xs.length) : ∃ g cap, v = .slice (some ⟨g, 0, none⟩) xs.length cap ∧ B ≤ g ∧ g < w.heap.size ∧ ∀ j, j < xs.length → w.cell? ⟨g, j, none⟩ = some (.int .u8 (xs.getD j 0)) := by
  have e : ∀ j, j < xs.length → (bC xs)[j]? = some (.int .u8 (xs.getD j 0)) := fun j hj => by
    unfold bC
    rw [List.getElem?_map, List.getElem?_eq_getElem hj, List.getD_eq_getElem?_getD, List.getElem?_eq_getElem hj]
    rfl
  rcases h with h | ⟨h0, b, cur, fr, rfl, h1, hh, hc, hm⟩
  · obtain ⟨g, cap, cur, rfl, h1, hh, h2, h3⟩ := own_cells h hn
    exact ⟨g, cap, rfl, h1, h2, fun j hj => by rw [h3 j (by omega), e j hj]⟩
  · refine ⟨b, _, rfl, h1, lt_of_some hh, fun j hj => ?_⟩
    have : w.cell? ⟨b, j, none⟩ = cur[j]? := by simp [World.cell?, hh]
    rw [this, ← Array.getElem?_toList, hc, e j hj]
theorem Rw.ints {A : Option Addr} {n c : Nat} (h : Rw B w (.slice A n c) xs) (hb : ∀ x ∈ xs, InB x) : n = xs.length ∧ Ints .u8 w A n xs := by
  obtain ⟨A', c', e, _⟩ := h.slice
  injection e with e1 e2 e3
  subst e1 e2 e3
  refine ⟨rfl, rfl, fun z hz => ?_, fun hn => ?_⟩
  · have := hb z hz
    unfold InB at this
    have h2 : IntKind.u8.min ≤ z ∧ z ≤ IntKind.u8.max := by
      rw [show IntKind.u8.min = 0 by decide, show IntKind.u8.max = 255 by decide]
      exact this
    simpa [Lit.wf] using h2
  · obtain ⟨g, cap, e, _, hg, hc⟩ := h.cells hn
    injection e with e1 e2 e3
    subst e1
    exact ⟨g, 0, rfl, hg, fun i hi => by rw [Nat.zero_add]; exact hc i hi⟩
end
/-- append to a row of bytes. -/
theorem rw_append {B : Nat} {w : World} {v : Value} {xs : List Int} (h : Rw B w v xs) (hB : B ≤ w.heap.size) (a : Addr) (m c : Nat) (news : List Int) (hm : news.length = m) (hm0 : 0 < m) (hnews : ∀ j u, (bC news)[j]? = some u → w.cell? (a.add j) = some u)
    (hl : xs.length + m ≤ 70000000000000) :
    ∃ v' w', (Builtin.append_ #[31, 31] 31 #[v, .slice (some a) m c]).run Try.prog w = .ok v' w' ∧ Rw B w' v' (xs ++ news) ∧ w.grownBy w' v.ownBlock := by
  obtain ⟨i0, hi, hz0, hz1, hz2⟩ := info_parts info_byte
  have eC : bC (xs ++ news) = bC xs ++ bC news := List.map_append
  rcases h with h | ⟨h0, b, cur, fr, rfl, h1, hh, hc, hx⟩
  · obtain ⟨v', w', hrun, hown', hgr, -⟩ := run_append_own w B 31 31 5 i0 _ 1 1 Try.underlying31 hi hz0 hz1 hz2 rfl (by decide) v xs.length (bC xs) h a m c
      (bC news) (by unfold bC; simp [hm]) hnews (by unfold bC; simp only [List.mem_map]; rintro u ⟨x, _, rfl⟩; rfl) (by unfold maxLen; omega) (by omega) hB
    refine ⟨v', w', hrun, .inl ?_, hgr⟩
    rw [eC, show (xs ++ news).length = xs.length + m by simp [hm]]
    exact hown'
  · have hcell : ∀ j u, (bC xs)[j]? = some u → w.cell? ((⟨b, 0, none⟩ : Addr).add j) = some u := by
      intro j u hu
      have hadd : (⟨b, 0, none⟩ : Addr).add j = ⟨b, j, none⟩ := by unfold Addr.add; split <;> simp_all
      rw [hadd]
      have : w.cell? ⟨b, j, none⟩ = cur[j]? := by simp [World.cell?, hh]
      rw [this, ← Array.getElem?_toList, hc, hu]
    have hr := run_append_grow (P := Try.prog) w 31 31 5 i0 _ Try.underlying31 hi hz0 ⟨b, 0, none⟩ xs.length xs.length (bC xs) (by unfold bC; simp [hz1]) hcell a m c (bC news) (by unfold bC; simp [hz1, hm]) hnews (by omega) (by omega)
      (growslice_fits (by omega) (by rw [hz2]; omega))
    have hlen : (xs ++ news).length = xs.length + m := by simp [hm]
    refine ⟨_, _, hr, .inl ?_, ⟨rfl, rfl, rfl, by simp, fun k hk _ => BlkW.heap_alloc_old w.drew _ k hk⟩⟩
    rw [hlen]
    have hg := grownCap_ge w (xs.length + m) xs.length 5
    refine ⟨by unfold bC; simp [hm], .inr ⟨w.heap.size, _, _, rfl, hB, BlkW.heap_alloc_new w.drew _, hg, grownCap_le_maxLen _ _ _ _ (by unfold maxLen; omega), ?_, ?_⟩⟩
    · simp only [Array.size_append, List.size_toArray, Builtin.zeroCells, bC, List.length_map]
      simp [Value.cells, hm]
      omega
    · simp only [Array.toList_append, List.append_assoc, eC]
      rw [← List.append_assoc]
      rw [show (xs.length + m) * 1 = (bC xs ++ bC news).length by unfold bC; simp [hm]]
      exact List.take_left
end Go.Proofs.Ytafidppjabdecaa.CodeW
