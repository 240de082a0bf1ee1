/-
  Texts on no machine: both machines' cells, and a list of boxes beside them (a law's variables, machines).
-/
import Derived.Test.YtpjbmbipkmpkhaaLabS
namespace Go.Proofs.Ytpjbmbipkmpkhaa.LabX
open Go.ChangeShapes Go.WideShapes Go.ChangeAt Go.RowKit
open PlainT BlkW LayS LayA LayK LayP CelS CelM CelP CelV CelN CelO CelI CelY CelF CelB LabD LabR LabP LabS
set_option linter.unusedVariables false
set_option maxHeartbeats 1000000

/-- A box: its block, its type, its cells. -/
abbrev Bx := Nat × TypeId × Array Value
theorem duo_le {lo hi b rb : Nat} {w : World} {q : Cfg} {A B : Int → List Int} (h : Duo lo hi w b rb q A B) : lo ≤ hi := by
  obtain ⟨m1, m2, h1, h2, hm, _⟩ := h
  have := Is.le h1
  have := RefIs.le h2
  omega
/-- The program's cells hold A, the reference's B; the boxes beside them hold what the list says. -/
structure Lb (w0 : World) (lo hi b rb : Nat) (q : Cfg) (A B : Int → List Int) (ex : List Bx) (w : World) : Prop where
  duo : Duo lo hi w b rb q A B
  mem : ∀ e ∈ ex, hi ≤ e.1 ∧ Mem w e.1 e.2.1 e.2.2
  nd : (ex.map (·.1)).Nodup
  old : Below w0.heap.size w0 w
  lo_ : w0.heap.size ≤ lo
  le : lo ≤ hi
section
variable {w0 w w' : World} {lo hi b rb : Nat} {q : Cfg} {A B A' B' : Int → List Int} {ex : List Bx} {P : Nat → Prop} {g : Nat} {T : TypeId} {cs cs' : Array Value}
theorem Lb.begun {q : Cfg} {A : Int → List Int} {lo hi b rb : Nat} (h : Begun w0 q A lo hi b rb w) : Lb w0 lo hi b rb q A A [] w :=
  ⟨h.2.2.1, fun _ he => absurd he (List.not_mem_nil), List.nodup_nil, h.2.2.2.2, h.2.2.2.1, duo_le h.2.2.1⟩
theorem Lb.of_fr (h : Lb w0 lo hi b rb q A B ex w) (D : Duo lo hi w' b rb q A' B') (k : Fr P w w') (hp : ∀ g, P g → lo ≤ g) (hx : ∀ e ∈ ex, ¬ P e.1) : Lb w0 lo hi b rb q A' B' ex w' :=
  ⟨D, fun e he => ⟨(h.mem e he).1, mem_fr (h.mem e he).2 k (hx e he)⟩, h.nd, k.after h.old (fun g hx => Nat.le_trans h.lo_ (hp g hx)) (Nat.le_refl _), h.lo_, h.le⟩
theorem Lb.below (h : Lb w0 lo hi b rb q A B ex w) (k : Below w.heap.size w w') : Lb w0 lo hi b rb q A B ex w' :=
  h.of_fr (P := fun _ => False) (h.duo.below k) (Fr.of_below k) (fun _ => False.elim) (fun _ _ => id)
theorem Lb.drewN (h : Lb w0 lo hi b rb q A B ex w) (n : Nat) : Lb w0 lo hi b rb q A B ex (w.drewN n) := h.below (below_drewN (Below.refl _ w) n)
theorem Lb.drew (h : Lb w0 lo hi b rb q A B ex w) : Lb w0 lo hi b rb q A B ex w.drew := h.drewN 1
theorem Lb.alloc (h : Lb w0 lo hi b rb q A B ex w) (o : Obj) : Lb w0 lo hi b rb q A B ex (w.alloc o) := h.below (below_new w o)
theorem Lb.stay (h : Lb w0 lo hi b rb q A B ex w) (D : Duo lo hi w' b rb q A' B') (S : Stay lo hi w w') : Lb w0 lo hi b rb q A' B' ex w' :=
  h.of_fr (P := PI lo hi) D (Fr.of_stay S fun x a c => ⟨a, c⟩) (fun g hg => hg.1) fun e he hp => by have := (h.mem e he).1; unfold PI at hp; omega
theorem Lb.new (h : Lb w0 lo hi b rb q A B ex w) (T : TypeId) (cs : Array Value) : Lb w0 lo hi b rb q A B (ex ++ [(w.heap.size, T, cs)]) (w.alloc (.cells cs T)) := by
  have h1 := h.alloc (.cells cs T)
  refine ⟨h1.duo, fun e he => ?_, ?_, h1.old, h1.lo_, h1.le⟩
  · rcases List.mem_append.1 he with he | he
    · exact h1.mem e he
    · simp at he
      subst he
      exact ⟨h.duo.top, Mem.new w T cs⟩
  · rw [List.map_append, List.nodup_append]
    refine ⟨h.nd, by simp, fun x hx y hy => ?_⟩
    simp at hy
    subst hy
    obtain ⟨e, he, rfl⟩ := List.mem_map.1 hx
    have := (h.mem e he).2.lt
    show e.1 ≠ w.heap.size
    omega
theorem Lb.at_ (h : Lb w0 lo hi b rb q A B ex w) (i : Nat) (he : ex[i]? = some (g, T, cs)) : hi ≤ g ∧ Mem w g T cs := h.mem _ (List.mem_of_getElem? he)
theorem Lb.c (h : Lb w0 lo hi b rb q A B ex w) (i j : Nat) {v : Value} (he : ex[i]? = some (g, T, cs)) (hv : cs[j]? = some v) : w.cell? ⟨g, j, none⟩ = some v := ((h.at_ i he).2.cell j).trans hv
theorem Lb.z (h : Lb w0 lo hi b rb q A B ex w) (i j : Nat) (he : ex[i]? = some (g, T, cs)) : w.frozen? ⟨g, j, none⟩ = false := (h.at_ i he).2.frozen j
theorem Lb.lt (h : Lb w0 lo hi b rb q A B ex w) (i : Nat) (he : ex[i]? = some (g, T, cs)) : g < w.heap.size := (h.at_ i he).2.lt
theorem Lb.top (h : Lb w0 lo hi b rb q A B ex w) : hi ≤ w.heap.size := h.duo.top
theorem map_set {i : Nat} (he : ex[i]? = some (g, T, cs)) (T' : TypeId) (cs' : Array Value) : (ex.set i (g, T', cs')).map (·.1) = ex.map (·.1) := by
  rw [List.map_set]
  apply List.ext_getElem?
  intro j
  by_cases hj : i = j
  · subst hj
    have hl : i < ex.length := (List.getElem?_eq_some_iff.1 he).1
    rw [List.getElem?_set_self (by simpa using hl), List.getElem?_map, he]
    rfl
  · rw [List.getElem?_set_ne hj]
theorem ne_of {i j : Nat} {g' : Nat} {T' : TypeId} (hn : (ex.map (·.1)).Nodup) (he : ex[i]? = some (g, T, cs)) (hj : ex[j]? = some (g', T', cs')) (hne : i ≠ j) : g ≠ g' := by
  have hi : i < (ex.map (·.1)).length := by simpa using (List.getElem?_eq_some_iff.1 he).1
  have h1 : (ex.map (·.1))[i]? = some g := by rw [List.getElem?_map, he]; rfl
  have h2 : (ex.map (·.1))[j]? = some g' := by rw [List.getElem?_map, hj]; rfl
  rintro rfl
  exact hne ((List.getElem?_inj hi hn).1 (h1.trans h2.symm))
/-- The box number i is turned, and the cells. -/
theorem Lb.step (h : Lb w0 lo hi b rb q A B ex w) (i : Nat) (he : ex[i]? = some (g, T, cs)) (D : Duo lo hi w' b rb q A' B') (M : Mem w' g T cs') (F : Fr (PG lo hi g) w w') : Lb w0 lo hi b rb q A' B' (ex.set i (g, T, cs')) w' := by
  have hg := (h.at_ i he).1
  have hlo := h.lo_
  have hle := h.le
  refine ⟨D, fun e hm => ?_, by rw [map_set he]; exact h.nd, F.after h.old (fun x hx => by unfold PG at hx; omega) (Nat.le_refl _), h.lo_, h.le⟩
  obtain ⟨j, hj⟩ := List.mem_iff_getElem?.1 hm
  by_cases hij : i = j
  · subst hij
    rw [List.getElem?_set_self (List.getElem?_eq_some_iff.1 he).1] at hj
    cases hj
    exact ⟨hg, M⟩
  · rw [List.getElem?_set_ne hij] at hj
    have hm' := h.mem e (List.mem_of_getElem? hj)
    have hne : g ≠ e.1 := ne_of h.nd he hj hij
    refine ⟨hm'.1, mem_fr hm'.2 F fun hx => ?_⟩
    unfold PG at hx
    omega
/-- A store into the box number i. -/
theorem Lb.put (h : Lb w0 lo hi b rb q A B ex w) (i j : Nat) (u : Value) (he : ex[i]? = some (g, T, cs)) : Lb w0 lo hi b rb q A B (ex.set i (g, T, cs.setIfInBounds j u)) (w.setCell ⟨g, j, none⟩ u) :=
  have hg := (h.at_ i he).1
  h.step i he (h.duo.set_ ⟨g, j, none⟩ (.inr hg) u) ((h.at_ i he).2.set_ j u) ((Fr.refl _ w).set_ ⟨g, j, none⟩ (.inl (.inr rfl)) u)
/-- The configuration that the reference's cells keep. -/
theorem Lb.cfg (h : Lb w0 lo hi b rb q A B ex w) (j : Nat) (hj : j < 13) : w.cell? ⟨rb, j, none⟩ = (cells q)[j]? := by
  obtain ⟨m1, m2, h1, ⟨V, X, c, t, s, h2⟩, hm, ho⟩ := h.duo
  rw [h2.r.bx.cell j]
  have : j = 0 ∨ j = 1 ∨ j = 2 ∨ j = 3 ∨ j = 4 ∨ j = 5 ∨ j = 6 ∨ j = 7 ∨ j = 8 ∨ j = 9 ∨ j = 10 ∨ j = 11 ∨ j = 12 := by omega
  rcases this with rfl | rfl | rfl | rfl | rfl | rfl | rfl | rfl | rfl | rfl | rfl | rfl | rfl <;> rfl
/-- The reference's data words as its cells keep them. -/
theorem Lb.data (h : Lb w0 lo hi b rb q A B ex w) : ∃ g c : Nat, (∀ j, j < (B 1).length → w.cell? ⟨rb, 13, none⟩ = some (.slice (some ⟨g, 0, none⟩) (B 1).length c) ∧ w.cell? ⟨g, j, none⟩ = some (.int .u64 ((B 1).getD j 0))) := by
  obtain ⟨m1, m2, h1, ⟨V, X, c, t, s, h2⟩, hm, ho⟩ := h.duo
  rcases Nat.eq_zero_or_pos (B 1).length with h0 | h0
  · exact ⟨0, 0, fun j hj => absurd hj (by omega)⟩
  · have ha := h2.a1
    rw [ha] at h0 ⊢
    have ho := h2.r.own 0 (by decide)
    have hc := h2.r.bx.cell 13
    obtain ⟨g, cap, cur, hV, hB, hh, hlt, hcs⟩ := own_cells ho h0
    refine ⟨g, cap, fun j hj => ⟨?_, ?_⟩⟩
    · rw [hc, ← hV]
      rfl
    · have h3 := hcs j (by omega)
      rw [h3]
      unfold us
      rw [List.getElem?_map, List.getD_eq_getElem?_getD, List.getElem?_eq_getElem hj]
      rfl
end
section
variable {w0 w : World} {lo hi b rb : Nat} {q : Cfg} {A : Int → List Int} {ex : List Bx}
theorem lb_set (h : Lb w0 lo hi b rb q A A ex w) (k : Int) (hk : 1 ≤ k ∧ k ≤ 8) (i : Nat) (hi_ : i < (A k).length) (v : Int) :
    Calls Try.prog 19 #[pairV b rb, .int .i64 k, .int .i64 i, .int .u64 v] w fun e w' => e = .returned (.bool true) ∧ Lb w0 lo hi b rb q (upd A k i v) (upd A k i v) ex w' :=
  (p_set h.duo k hk i hi_ hi_ _ rfl rfl v).mono fun e w' hh => ⟨hh.1, h.stay hh.2.1 hh.2.2⟩
theorem lb_same (h : Lb w0 lo hi b rb q A A ex w) : Calls Try.prog 29 #[pairV b rb] w fun e w' => e = .returned (.bool true) ∧ Lb w0 lo hi b rb q A A ex w' :=
  (p_same h.duo).mono fun e w' hh => ⟨hh.1, h.stay hh.2.1 hh.2.2⟩
end
theorem upd_at {A : Int → List Int} {k : Int} {i : Nat} {v : Int} (hi : i < (A k).length) : (upd A k i v k).getD i 0 = v := by
  unfold upd
  rw [if_pos rfl, List.getD_eq_getElem?_getD, List.getElem?_set_self hi]
  rfl
theorem upd_off {A : Int → List Int} {k j : Int} {i : Nat} {v : Int} (h : j ≠ k) : upd A k i v j = A j := if_neg h
/-- What Start's cells are like: the words, and ownership records that are free with version 0. -/
theorem begun_len {w0 w : World} {q : Cfg} {A : Int → List Int} {lo hi b rb : Nat} (h : Begun w0 q A lo hi b rb w) : Made q ∧ q.w ≤ ((A 1).length : Int) ∧ (A 1).length ≤ 80 ∧ q.o = ((A 2).length : Int) ∧ (∀ i, (A 2).getD i 0 = 0) := by
  obtain ⟨hm, ⟨n, no, hn, hno, rfl⟩, _⟩ := h
  have hb := blk_in q
  have hw : 4 ≤ q.w ∧ q.w ≤ 12 := by unfold Made at hm; omega
  have e1 : A0 q n no 4 (gen q.w.toNat) 1 = gen q.w.toNat ++ List.replicate n 0 := rfl
  have e2 : A0 q n no 4 (gen q.w.toNat) 2 = List.replicate no 0 := rfl
  rw [e1, e2]
  refine ⟨hm, ?_, ?_, ?_, fun i => ?_⟩
  · rw [List.length_append, gen_len, List.length_replicate]; omega
  · rw [List.length_append, gen_len, List.length_replicate]; omega
  · rw [List.length_replicate]; omega
  · rw [List.getD_eq_getElem?_getD, List.getElem?_replicate]
    split <;> rfl
end Go.Proofs.Ytpjbmbipkmpkhaa.LabX
