/-
  Texts on no function: what changes but some blocks; the program's cells and the reference's side by side.
-/
import Derived.Test.YtpjbmbipkmpkhaaCelDo
import Derived.Test.YtpjbmbipkmpkhaaCelB
import Derived.Test.YtpjbmbipkmpkhaaCelY
import Derived.Test.YtpjbmbipkmpkhaaCelT
namespace Go.Proofs.Ytpjbmbipkmpkhaa.LabD
open Go.RowKit
open PlainT BlkW LayS CelS CelM CelV CelN CelF
set_option linter.unusedVariables false

/-- Nothing is turned but the blocks that P names and new ones. -/
structure Fr (P : Nat → Prop) (w w' : World) : Prop where
  os : w'.os = w.os
  tape : w'.tape = w.tape
  output : w'.output = w.output
  size : w.heap.size ≤ w'.heap.size
  block : ∀ g, g < w.heap.size → ¬ P g → w'.heap[g]? = w.heap[g]?
section
variable {P Q : Nat → Prop} {w w' w'' : World} {lo hi : Nat}
theorem Fr.refl (P : Nat → Prop) (w : World) : Fr P w w := ⟨rfl, rfl, rfl, Nat.le_refl _, fun _ _ _ => rfl⟩
theorem Fr.trans (h : Fr P w w') (k : Fr P w' w'') : Fr P w w'' := ⟨k.os.trans h.os, k.tape.trans h.tape, k.output.trans h.output, Nat.le_trans h.size k.size, fun g hg hr => (k.block g (Nat.lt_of_lt_of_le hg h.size) hr).trans (h.block g hg hr)⟩
/-- What the second step turns was new at the first, or named. -/
theorem Fr.then (h : Fr P w w') (k : Fr Q w' w'') (hq : ∀ g, g < w.heap.size → Q g → P g) : Fr P w w'' := ⟨k.os.trans h.os, k.tape.trans h.tape, k.output.trans h.output, Nat.le_trans h.size k.size, fun g hg hr => (k.block g (Nat.lt_of_lt_of_le hg h.size) (fun hx => hr (hq g hg hx))).trans (h.block g hg hr)⟩
theorem Fr.wide (h : Fr P w w') (hq : ∀ g, P g → Q g) : Fr Q w w' := ⟨h.os, h.tape, h.output, h.size, fun g hg hr => h.block g hg (fun hx => hr (hq g hx))⟩
theorem Fr.of_below (h : Below w.heap.size w w') : Fr P w w' := ⟨h.os, h.tape, h.output, h.size, fun g hg _ => h.block g hg⟩
theorem Fr.of_stay (h : Stay lo hi w w') (hp : ∀ g, lo ≤ g → g < hi → P g) : Fr P w w' := ⟨h.os, h.tape, h.output, h.size, fun g hg hr => h.block g hg (by
  rcases Nat.lt_or_ge g lo with h1 | h1
  · exact .inl h1
  · rcases Nat.lt_or_ge g hi with h2 | h2
    · exact absurd (hp g h1 h2) hr
    · exact .inr h2)⟩
theorem Fr.alloc (h : Fr P w w') (o : Obj) : Fr P w (w'.alloc o) := h.trans (.of_below (below_new w' o))
theorem Fr.drewN (h : Fr P w w') (n : Nat) : Fr P w (w'.drewN n) := ⟨h.os, h.tape, h.output, h.size, h.block⟩
theorem Fr.set_ (h : Fr P w w') (a : Addr) (ha : P a.block ∨ w.heap.size ≤ a.block) (u : Value) : Fr P w (w'.setCell a u) :=
  ⟨h.os, h.tape, h.output, by simpa [World.setCell] using h.size, fun g hg hr => (Below.heap_setCell w' a u g (by
    rintro rfl
    rcases ha with ha | ha
    · exact hr ha
    · omega)).trans (h.block g hg hr)⟩
theorem Fr.below {B : Nat} (h : Fr P w w') (hp : ∀ g, P g → B ≤ g) (hB : B ≤ w.heap.size) : Below B w w' := ⟨h.os, h.tape, h.output, h.size, fun g hg => h.block g (by omega) (fun hx => by have := hp g hx; omega)⟩
theorem Fr.after {B : Nat} {w0 : World} (h : Fr P w w') (hb : Below B w0 w) (hp : ∀ g, P g → B ≤ g) (hB : B ≤ w0.heap.size) : Below B w0 w' := hb.trans (h.below hp (Nat.le_trans hB hb.size))
theorem Mem.of_eq {g : Nat} {t : TypeId} {cs : Array Value} (h : Mem w g t cs) (e : w'.heap[g]? = w.heap[g]?) : Mem w' g t cs := e.trans h
theorem mem_fr {g : Nat} {t : TypeId} {cs : Array Value} (h : Mem w g t cs) (k : Fr P w w') (hp : ¬ P g) : Mem w' g t cs := (k.block g h.lt hp).trans h
theorem is_fr {b : Nat} {A : Int → List Int} (h : Is lo hi w b A) (k : Fr P w w') (hp : ∀ g, lo ≤ g → g < hi → ¬ P g) : Is lo hi w' b A :=
  let ⟨bm, g, h⟩ := h; ⟨bm, g, h.of_blocks (Nat.le_trans h.top k.size) fun x h1 h2 => k.block x (Nat.lt_of_lt_of_le h2 h.top) (hp x h1 h2)⟩
theorem ref_fr {rb : Nat} {q : Cfg} {A : Int → List Int} (h : RefIs lo hi w rb q A) (k : Fr P w w') (hp : ∀ g, lo ≤ g → g < hi → ¬ P g) : RefIs lo hi w' rb q A := by
  obtain ⟨V, X, c, t, s, h⟩ := h
  exact ⟨V, X, c, t, s, h.of_blocks (Nat.le_trans h.top k.size) fun x h1 h2 => k.block x (Nat.lt_of_lt_of_le h2 h.top) (hp x h1 h2)⟩
end
/-- The blocks from lo to hi, and block g. -/
def PG (lo hi g : Nat) (x : Nat) : Prop := (lo ≤ x ∧ x < hi) ∨ x = g
/-- The blocks from lo to hi. -/
def PI (lo hi : Nat) (x : Nat) : Prop := lo ≤ x ∧ x < hi

theorem Is.le {lo hi b : Nat} {w : World} {A : Int → List Int} (h : Is lo hi w b A) : lo ≤ hi := by
  obtain ⟨bm, g, h⟩ := h
  have := h.bIn
  omega
theorem RefIs.le {lo hi rb : Nat} {w : World} {q : Cfg} {A : Int → List Int} (h : RefIs lo hi w rb q A) : lo ≤ hi := by
  obtain ⟨V, X, c, t, s, h⟩ := h
  have := h.bIn
  have := h.r.low
  omega
theorem Fr.stay {lo hi : Nat} {w w' : World} (h : Fr (PI lo hi) w w') : Stay lo hi w w' := ⟨h.os, h.tape, h.output, h.size, fun g hg hr => h.block g hg (by unfold PI; omega)⟩
/-- Both machines' cells lie between lo and hi: the program's hold A, the reference's hold B. -/
def Duo (lo hi : Nat) (w : World) (b rb : Nat) (q : Cfg) (A B : Int → List Int) : Prop := ∃ m1 m2, Is lo m1 w b A ∧ RefIs m2 hi w rb q B ∧ m1 ≤ m2 ∧ ∀ k, ¬ (1 ≤ k ∧ k ≤ 8) → B k = []
section
variable {P : Nat → Prop} {lo hi b rb : Nat} {w w' : World} {q : Cfg} {A B : Int → List Int}
theorem Duo.top (h : Duo lo hi w b rb q A B) : hi ≤ w.heap.size := by
  obtain ⟨m1, m2, h1, h2, hm, _⟩ := h
  exact h2.top
theorem Duo.len (h : Duo lo hi w b rb q A B) (k : Int) : (A k).length ≤ 1000 := by
  obtain ⟨m1, m2, ⟨bm, g, h1⟩, h2, hm, _⟩ := h
  exact h1.len k
theorem Duo.out (h : Duo lo hi w b rb q A B) (k : Int) (hk : ¬ (1 ≤ k ∧ k ≤ 8)) : A k = [] := by
  obtain ⟨m1, m2, ⟨bm, g, h1⟩, h2, hm, _⟩ := h
  exact h1.out k hk
theorem Duo.fr (h : Duo lo hi w b rb q A B) (k : Fr P w w') (hp : ∀ g, lo ≤ g → g < hi → ¬ P g) : Duo lo hi w' b rb q A B := by
  obtain ⟨m1, m2, h1, h2, hm, ho⟩ := h
  have l1 := Is.le h1
  have l2 := RefIs.le h2
  exact ⟨m1, m2, is_fr h1 k fun g a c => hp g a (by omega), ref_fr h2 k fun g a c => hp g (by omega) c, hm, ho⟩
theorem Duo.below (h : Duo lo hi w b rb q A B) (k : Below w.heap.size w w') : Duo lo hi w' b rb q A B := by
  obtain ⟨m1, m2, h1, h2, hm, ho⟩ := h
  exact ⟨m1, m2, h1.below k, h2.below k, hm, ho⟩
theorem Duo.drewN (h : Duo lo hi w b rb q A B) (n : Nat) : Duo lo hi (w.drewN n) b rb q A B := h.fr (P := fun _ => False) ((Fr.refl _ w).drewN n) fun _ _ _ => id
theorem Duo.alloc (h : Duo lo hi w b rb q A B) (o : Obj) : Duo lo hi (w.alloc o) b rb q A B := h.below (below_new w o)
theorem Duo.set_ (h : Duo lo hi w b rb q A B) (a : Addr) (ha : a.block < lo ∨ hi ≤ a.block) (u : Value) : Duo lo hi (w.setCell a u) b rb q A B :=
  h.fr (P := fun x => x = a.block) ((Fr.refl (fun x => x = a.block) w).set_ a (.inl rfl) u) fun g h1 h2 e => by subst e; omega
/-- The program's cells turn. -/
theorem Duo.left {A' : Int → List Int} {m1 m2 : Nat} (h2 : RefIs m2 hi w rb q B) (hm : m1 ≤ m2) (ho : ∀ k, ¬ (1 ≤ k ∧ k ≤ 8) → B k = []) (h1 : Is lo m1 w' b A') (k : Stay lo m1 w w') : Duo lo hi w' b rb q A' B ∧ Stay lo hi w w' :=
  ⟨⟨m1, m2, h1, h2.stay k (.inr hm), hm, ho⟩, k.wide (Nat.le_refl _) (by have := RefIs.le h2; omega)⟩
/-- The reference's cells turn. -/
theorem Duo.right {B' : Int → List Int} {m1 m2 : Nat} (h1 : Is lo m1 w b A) (hm : m1 ≤ m2) (ho : ∀ k, ¬ (1 ≤ k ∧ k ≤ 8) → B' k = []) (h2 : RefIs m2 hi w' rb q B') (k : Stay m2 hi w w') : Duo lo hi w' b rb q A B' ∧ Stay lo hi w w' :=
  ⟨⟨m1, m2, h1.stay k (.inl hm), h2, hm, ho⟩, k.wide (by have := Is.le h1; omega) (Nat.le_refl _)⟩
end
theorem rd_own {w : World} {base : Nat} {v : Value} {xs : List Int} (h : OwnU w base v xs) : CelQ.Rd w v xs := by
  rcases Nat.eq_zero_or_pos xs.length with h0 | h0
  · obtain ⟨A, c, rfl, _⟩ := own_slice h
    exact ⟨A, c, rfl, fun j x hj => by
      have := (List.getElem?_eq_some_iff.1 hj).1
      omega⟩
  · obtain ⟨g, cap, cur, rfl, _, _, _, hc⟩ := own_cells h h0
    refine ⟨some ⟨g, 0, none⟩, cap, rfl, fun j x hj => ⟨g, 0, rfl, ?_⟩⟩
    have hl := (List.getElem?_eq_some_iff.1 hj).1
    rw [Nat.zero_add, hc j (by omega)]
    unfold us
    rw [List.getElem?_map, hj]
    rfl
theorem upd_same {A : Int → List Int} {k : Int} {i : Nat} {x : Int} (hi : i < (A k).length) (hx : (A k).getD i 0 = x) : upd A k i x = A := by
  funext j
  unfold upd
  split
  · rename_i e
    subst e
    rw [← hx, List.getD_eq_getElem?_getD, List.getElem?_eq_getElem hi, Option.getD_some]
    exact List.set_getElem_self hi
  · rfl
theorem upd_get {A : Int → List Int} {k j : Int} {i n : Nat} {v : Int} (hi : i < (A k).length) : (upd A k i v j).getD n 0 = if j = k ∧ n = i then v else (A j).getD n 0 := by
  unfold upd
  by_cases e : j = k
  · subst e
    rw [if_pos rfl]
    by_cases e2 : n = i
    · subst e2
      rw [if_pos ⟨rfl, rfl⟩, List.getD_eq_getElem?_getD, List.getElem?_set_self hi]
      rfl
    · rw [if_neg (fun h => e2 h.2), List.getD_eq_getElem?_getD, List.getElem?_set_ne (Ne.symm e2), ← List.getD_eq_getElem?_getD]
  · rw [if_neg e, if_neg (fun h => e h.1)]
theorem upd_ne {A : Int → List Int} {k j : Int} {i : Nat} {v : Int} (h : j ≠ k) : upd A k i v j = A j := if_neg h
theorem upd_out {A : Int → List Int} {k : Int} (hk : 1 ≤ k ∧ k ≤ 8) {i : Nat} {v : Int} (h : ∀ k, ¬ (1 ≤ k ∧ k ≤ 8) → A k = []) (j : Int) (hj : ¬ (1 ≤ j ∧ j ≤ 8)) : upd A k i v j = [] := by
  rw [upd_ne (by rintro rfl; exact hj hk)]
  exact h j hj
theorem one_get {l : List Int} (h : l.length = 1) : l = [l.getD 0 0] := by
  match l, h with
  | [x], _ => rfl
/-! The program's operations over both. -/
section
variable {lo hi b rb : Nat} {w : World} {q : Cfg} {A B : Int → List Int}
theorem d_load (h : Duo lo hi w b rb q A B) (k : Int) (hk : 1 ≤ k ∧ k ≤ 8) (i : Nat) (hlt : i < (A k).length) (x : Int) (hx : (A k).getD i 0 = x) : Calls Try.prog 70 #[.pointer (some ⟨b, 0, none⟩), .int .i64 k, .int .i64 i] w fun e w' => e = .returned (.tuple #[accV 1 k i x x true, .int .i64 0]) ∧ Duo lo hi w' b rb q A B ∧ Stay lo hi w w' := by
  obtain ⟨m1, m2, h1, h2, hm, ho⟩ := h
  refine (CelO.m_load lo m1 w b A h1 k hk i hlt x hx).mono ?_
  rintro e w' ⟨he, hI, hS⟩
  rw [upd_same hlt hx] at hI
  exact ⟨he, Duo.left h2 hm ho hI hS⟩
theorem d_store (h : Duo lo hi w b rb q A B) (k : Int) (hk : 1 ≤ k ∧ k ≤ 8) (i : Nat) (hlt : i < (A k).length) (x : Int) (hx : (A k).getD i 0 = x) (v : Int) : Calls Try.prog 72 #[.pointer (some ⟨b, 0, none⟩), .int .i64 k, .int .i64 i, .int .u64 v] w fun e w' => e = .returned (.tuple #[accV 2 k i x v true, .int .i64 0]) ∧ Duo lo hi w' b rb q (upd A k i v) B ∧ Stay lo hi w w' := by
  obtain ⟨m1, m2, h1, h2, hm, ho⟩ := h
  refine (CelO.m_store lo m1 w b A h1 k hk i hlt x hx v).mono ?_
  rintro e w' ⟨he, hI, hS⟩
  exact ⟨he, Duo.left h2 hm ho hI hS⟩
end
end Go.Proofs.Ytpjbmbipkmpkhaa.LabD
