/-
  Contract of package program: heaviest (the first part: rows of rests, plain mathematics).
-/
import Derived.Test.YthnhmclnfgkppaaDoorPgW
namespace Go.Proofs.YthnhmclnfgkppaaDoor.PgX
open Go.ChangeShapes Go.WideShapes Go.ChangeAt Go.RowKit Go.Shelf
open PlainT IsaE IsaS BlkW IsaA IsaB IsaF PrgS PrgC PgS PgA PgB PgT PgU PgC PgD PgE PgF PgV PgW
set_option linter.unusedVariables false
attribute [local go_sem] Oper.semAt_some

def rowR (R : Nat → Int) (n : Nat) : Array Value := ((List.range n).map fun i => Value.int .i64 (R i)).toArray
theorem rowR_get (R : Nat → Int) {n i : Nat} (h : i < n) : (rowR R n)[i]? = some (.int .i64 (R i)) := by
  unfold rowR
  simp [h]
def updR (R : Nat → Int) (k : Nat) (r : Int) : Nat → Int := fun i => if i = k then r else R i
theorem updR_self (R : Nat → Int) (k : Nat) : updR R k (R k) = R := by
  funext i
  unfold updR
  by_cases h : i = k
  · rw [if_pos h, h]
  · rw [if_neg h]
theorem updR_at (R : Nat → Int) (k : Nat) (r : Int) : updR R k r k = r := if_pos rfl
theorem updR_ne (R : Nat → Int) {k i : Nat} (r : Int) (h : i ≠ k) : updR R k r i = R i := if_neg h
theorem updR_upd (R : Nat → Int) (k : Nat) (r s : Int) : updR (updR R k r) k s = updR R k s := by
  funext i
  unfold updR
  by_cases h : i = k
  · rw [if_pos h, if_pos h]
  · rw [if_neg h, if_neg h, if_neg h]
theorem rowR_set (R : Nat → Int) {n k : Nat} (r : Int) : (rowR R n).setIfInBounds k (.int .i64 r) = rowR (updR R k r) n := by
  apply Array.ext_getElem?
  intro i
  rw [Array.getElem?_setIfInBounds]
  unfold rowR updR
  by_cases hi : i < n
  · by_cases h : k = i
    · subst h
      simp [hi]
    · rw [if_neg h]
      simp [hi, Ne.symm h]
  · by_cases h : k = i
    · subst h
      simp [hi]
    · rw [if_neg h]
      simp [hi]
theorem rowR_zero (n : Nat) : Array.replicate n (Value.int .i64 0) = rowR (fun _ => 0) n := by
  apply Array.ext_getElem?
  intro i
  unfold rowR
  by_cases hi : i < n <;> simp [hi]
/-- No rest is negative or great. -/
def BdR (R : Nat → Int) : Prop := ∀ i : Nat, 0 ≤ R i ∧ R i ≤ 100 * ((70 - i : Nat) : Int)
theorem bd_zero : BdR fun _ => 0 := fun i => ⟨Int.le_refl _, by show (0 : Int) ≤ _; omega⟩
theorem bd_mx {R : Nat → Int} (h : BdR R) {k : Nat} {l : List Int} (hl : ∀ y ∈ l, (k : Int) < y) : 0 ≤ mx R l 0 ∧ mx R l 0 ≤ 100 * ((69 - k : Nat) : Int) :=
  ⟨(mx_ge R l 0).1, mx_le R _ l 0 (by omega) fun y hy => by have := (h y.toNat).2; have := hl y hy; omega⟩
theorem bd_upd {R : Nat → Int} (h : BdR R) {k : Nat} (hk : k ≤ 64) {r : Int} (h0 : 0 ≤ r) (h1 : r ≤ 100 * ((70 - k : Nat) : Int)) : BdR (updR R k r) := fun i => by
  by_cases e : i = k
  · subst e; rw [updR_at]; exact ⟨h0, h1⟩
  · rw [updR_ne _ _ e]; exact h i
theorem rest_init (ps : List I5) (wt : I5 → Int) (hi : Int) : PgV.Rest ps wt (hi + 1) hi fun _ => 0 := ⟨fun _ _ => rfl, fun _ _ => rfl, fun i x h1 h2 _ => by omega⟩
theorem rest_step {ps : List I5} {wt : I5 → Int} {hi : Int} {R : Nat → Int} {k : Nat} {x : I5} (hv : Valid ps) (h : PgV.Rest ps wt (k + 1) hi R) (hk : (k : Int) ≤ hi) (hx : ps[k]? = some x) : PgV.Rest ps wt k hi (updR R k (mx R (folV ps k x) 0 + wt x)) := by
  refine ⟨fun i hl => ?_, fun i ho => ?_, fun i y h1 h2 hy => ?_⟩
  · rw [updR_ne _ _ (by omega)]; exact h.low i (by omega)
  · rw [updR_ne _ _ (by omega)]; exact h.out i ho
  · rw [mx_congr (S := R) _ _ (fun z hz => updR_ne _ _ (by have := (hv.fol hy z hz).1; omega))]
    by_cases e : i = k
    · subst e
      rw [hx] at hy
      cases hy
      exact updR_at _ _ _
    · rw [updR_ne _ _ e]
      exact h.eq i y (by omega) h2 hy
/-- Marks of loops that are over. -/
def markOf (D : Nat) : Deferred := { target := .collected D, args := #[] }
def MarksAt (Ds : List Nat) (W : World) : Prop := ∀ D ∈ Ds, W.heap[D]? = some (.deferred (some []))
theorem marks_own {Ds : List Nat} {B : Nat} (hB : ∀ D ∈ Ds, D < B) : OwnFrom B (fun (_ : Unit) W => MarksAt Ds W) := fun s X Y row hs hg hr D hD =>
  (hg.block D (Array.getElem?_eq_some_iff.1 (hs D hD)).1 (fun e => by have := (hr D e.symm).1; have := hB D hD; omega)).trans (hs D hD)
theorem marks_old {Ds : List Nat} {B : Nat} {W W' : World} (h : MarksAt Ds W) (hb : Below B W W') (hB : ∀ D ∈ Ds, D < B) : MarksAt Ds W' := fun D hD => (hb.block D (hB D hD)).trans (h D hD)
theorem marks_set {Ds : List Nat} {W : World} {g : Nat} {t : TypeId} {cs : Array Value} (h : MarksAt Ds W) (hm : Mem W g t cs) (i : Nat) (v : Value) : MarksAt Ds (W.setCell ⟨g, i, none⟩ v) := fun D hD =>
  (Below.heap_setCell W ⟨g, i, none⟩ v D (fun e => by
    have h1 := h D hD
    rw [e] at h1
    rw [show W.heap[g]? = _ from hm] at h1
    cases h1)).trans (h D hD)
theorem leaves_marks {P : Program} {F : Fence} {n : Nat} {fn : Func} {tmps : Array Value} {R : Ending → World → Prop} {lo : Nat} {w : World}
    (hfin : ∀ W, Below lo w W → LeavesIn F n P fn tmps R [] .returning W) : ∀ (Ds : List Nat) (W : World), Ds.Nodup → (∀ D ∈ Ds, lo ≤ D) → MarksAt Ds W → Below lo w W → lo ≤ W.heap.size → LeavesInM F n P fn tmps R (Ds.map markOf) .returning W
  | [], W, _, _, _, hb, _ => hfin W hb
  | D :: Ds, W, hn, hl, hm, hb, hs => by
    have hD := hm D (List.mem_cons_self ..)
    refine ⟨by simp, .inl ⟨D, _, rfl, run_takeDeferred hD, ?_⟩⟩
    have hn' := List.nodup_cons.1 hn
    refine leaves_marks hfin Ds _ hn'.2 (fun E hE => hl E (List.mem_cons_of_mem _ hE)) (fun E hE => ?_) (hb.trans ((Below.refl lo W).grown (grownBy_putObj' W D (.deferred none)) hs (fun k e => by cases e; exact hl D (List.mem_cons_self ..)))) (by simpa using hs)
    exact (World.putObj_heap_other (fun e => hn'.1 (by rw [← e]; exact hE))).trans (hm E (List.mem_cons_of_mem _ hE))
theorem made_i (n : Nat) : madeCells (Value.int .i64 0).cells n = Array.replicate n (.int .i64 0) := by
  apply Array.ext
  · simp [size_madeCells]
  · intro i h1 h2
    simp [madeCells, Value.cells, Nat.mod_one]
set_option maxRecDepth 100000 in
theorem make_i (w : World) (m : Nat) (h : m ≤ 1000000) : (Instr.makeSlice 22 (.int .i64 (m : Int)) (.int .i64 (m : Int))).run Tryd.prog w = .ok (.slice (some ⟨w.heap.size, 0, none⟩) m m) (w.alloc (.cells (Array.replicate m (.int .i64 0)) 3)) := by
  obtain ⟨i, hi, hz, hs, hb⟩ : ∃ i, Tryd.prog.info? 3 = some i ∧ i.zero = some (.int .i64 0) ∧ i.size = 1 ∧ i.bytes = 8 := ⟨_, rfl, by kernel_rfl, by kernel_rfl, by kernel_rfl⟩
  have := run_make (P := Tryd.prog) w 22 3 i (.int .i64 0) Tryd.underlying22 hi hz .i64 .i64 m m (by omega) (Int.le_refl _) (by rw [hb]; omega) (by omega)
  rw [this, hs, Nat.mul_one, made_i]
  simp
end Go.Proofs.YthnhmclnfgkppaaDoor.PgX
