/-
  Rows of integers of a set's own: one more at the end; a search; contracts of slices.Index, slices.Contains, strongtxkit.In, of rows that read alike; of Place.
-/
import Derived.Test.YtpjbmbipkmpkhaaFreV
import Derived.Maps.AppendAt
import Derived.Laws.OwnMore
import Derived.Laws.CopyRow
import Derived.Laws.IdiomCopy
namespace Go.Proofs.Ytpjbmbipkmpkhaa.RsA
open Go.ChangeShapes Go.WideShapes Go.ChangeAt Go.RowKit
open PlainT BlkW CelS CelM CelV CelN LabD FreV FreI
set_option linter.unusedVariables false
set_option maxHeartbeats 1000000
set_option maxRecDepth 100000

/-- The integers of a row as its cells. -/
def isV (xs : List Int) : List Value := xs.map (Value.int .i64)
theorem isV_push (xs : List Int) (x : Int) : isV (xs ++ [x]) = isV xs ++ [.int .i64 x] := by simp [isV]
abbrev OwnI (w : World) (B : Nat) (v : Value) (xs : List Int) : Prop := w.ownsRow B TI 1 v xs.length (isV xs)
theorem push_i {B : Nat} {w : World} (hB : B ≤ w.heap.size) {v : Value} {xs : List Int} (hown : OwnI w B v xs) (hn : xs.length ≤ 300000) (x : Int) :
    ∃ A c w', (Builtin.append_ #[47, 47] 47 #[v, .slice (some ⟨w.heap.size, 0, none⟩) 1 1]).run Try.prog (w.alloc (.cells #[.int .i64 x] TI)) = .ok (.slice A (xs.length + 1) c) w' ∧
      OwnI w' B (.slice A (xs.length + 1) c) (xs ++ [x]) ∧ Below B w w' ∧ (∀ g2, g2 < w.heap.size → v.ownBlock ≠ some g2 → w'.heap[g2]? = w.heap[g2]?) ∧ ((Value.slice A (xs.length + 1) c).ownBlock = v.ownBlock ∨ ∃ g, (Value.slice A (xs.length + 1) c).ownBlock = some g ∧ w.heap.size ≤ g) := by
  obtain ⟨i0, hi, hz0, hz1, hz2⟩ : ∃ i, Try.prog.info? TI = some i ∧ i.zero = some (.int .i64 0) ∧ i.size = 1 ∧ i.bytes = 8 := ⟨_, rfl, by kernel_rfl, by kernel_rfl, by kernel_rfl⟩
  have hown1 := hown.alloc (.cells #[.int .i64 x] TI)
  obtain ⟨v', w', hrun, hown', hgr, _, hat⟩ := run_append_own_at (P := Try.prog) (w := w.alloc (.cells #[.int .i64 x] TI)) B 47 47 TI i0 _ 1 8 Try.underlying47 hi hz0 hz1 hz2 rfl (by decide) v xs.length (isV xs) hown1 ⟨w.heap.size, 0, none⟩ 1 1 [.int .i64 x] rfl (cell_lit (W := w) (l := [.int .i64 x])) (by simp [Value.oneCell'])
    (by unfold maxLen; omega) (by omega) (by rw [size_new]; omega)
  obtain ⟨A, c, rfl, _⟩ := own_slice hown'
  refine ⟨A, c, w', hrun, ?_, ((Below.refl B w).alloc hB _).grown hgr (by rw [size_new]; omega) (fun k hk => (own_row hown1 k hk).1), fun g2 hg2 hne => ?_, ?_⟩
  · unfold OwnI
    rw [List.length_append, isV_push]
    exact hown'
  · exact (hgr.block g2 (by rw [size_new]; omega) (fun e => hne e.symm)).trans (BlkW.heap_alloc_old w _ g2 hg2)
  · rcases hat with h | h
    · exact .inl h
    · exact .inr ⟨_, h, by rw [size_new]; omega⟩
section
variable {w w' : World} {B : Nat} {v : Value} {xs : List Int}
theorem rdi_own (h : OwnI w B v xs) : RdI w v xs := by
  rcases Nat.eq_zero_or_pos xs.length with h0 | h0
  · obtain ⟨A, c, rfl, _⟩ := own_slice h
    exact ⟨A, c, rfl, fun j x hj => by
      have := (List.getElem?_eq_some_iff.1 hj).1
      omega⟩
  · obtain ⟨g, cap, cur, rfl, _, _, _, hc⟩ := own_cells h h0
    refine ⟨some ⟨g, 0, none⟩, cap, rfl, fun j x hj => ⟨g, 0, rfl, ?_⟩⟩
    have hl := (List.getElem?_eq_some_iff.1 hj).1
    rw [Nat.zero_add, hc j (by omega)]
    unfold isV
    rw [List.getElem?_map, hj]
    rfl
theorem rdi_below (h : RdI w v xs) (hb : Below w.heap.size w w') : RdI w' v xs := by
  obtain ⟨p, cap, rfl, hc⟩ := h
  refine ⟨p, cap, rfl, fun j x hj => ?_⟩
  obtain ⟨g, o, rfl, hx⟩ := hc j x hj
  exact ⟨g, o, rfl, (World.cell?_of_block (hb.block g (World.block_lt_of_cell? _ _ hx))).trans hx⟩
theorem rdi_slice (h : RdI w v xs) : ∃ p cap, v = .slice p xs.length cap := let ⟨p, c, e, _⟩ := h; ⟨p, c, e⟩
end
/-! A row that is made, and filled by copy. -/
def IA (xs : List Int) : Array Value := (xs.map (Value.int .i64)).toArray
theorem made_i (n : Nat) : madeCells (Value.int .i64 0).cells n = IA (List.replicate n 0) := by
  apply Array.ext
  · simp [size_madeCells, IA]
  · intro i h1 h2
    simp [madeCells, IA, Value.cells, Nat.mod_one]
theorem make_i (w : World) (n : Nat) (h : n ≤ 1000000) : (Instr.makeSlice 47 (.int .i64 n) (.int .i64 n)).run Try.prog w = .ok (.slice (some ⟨w.heap.size, 0, none⟩) n n) (w.alloc (.cells (IA (List.replicate n 0)) TI)) := by
  obtain ⟨i, hi, hz, hs, hb⟩ : ∃ i, Try.prog.info? TI = some i ∧ i.zero = some (.int .i64 0) ∧ i.size = 1 ∧ i.bytes = 8 := ⟨_, rfl, by kernel_rfl, by kernel_rfl, by kernel_rfl⟩
  have := run_make (P := Try.prog) w 47 TI i (.int .i64 0) Try.underlying47 hi hz .i64 .i64 n n (by omega) (Int.le_refl _) (by rw [hb]; omega) (by omega)
  rw [this, hs, Nat.mul_one, made_i]
  simp
theorem copy_i {w : World} {g n : Nat} {xs : List Int} {v : Value} (hg : Mem w g TI (IA (List.replicate n 0))) (hn : n = xs.length) (hs : RdI w v xs) (ty : TypeId) :
    ∃ w', (Builtin.copy_ #[47, 47] ty #[.slice (some ⟨g, 0, none⟩) n n, v]).run Try.prog w = .ok (goInt n) w' ∧ Mem w' g TI (IA xs) ∧ Fr (fun x => x = g) w w' := by
  subst hn
  obtain ⟨p, cap, rfl, hc⟩ := hs
  rcases Nat.eq_zero_or_pos xs.length with h0 | h0
  · have hx := List.eq_nil_of_length_eq_zero h0
    subst hx
    exact ⟨w, run_copy_none (P := Try.prog) w 47 47 ty TI _ p 0 0 0 cap Try.underlying47 (by kernel_rfl) (by simp), hg, Fr.refl _ _⟩
  · obtain ⟨g', o, rfl, _⟩ := hc 0 (xs[0]'h0) (by rw [List.getElem?_eq_getElem])
    have := run_copy_row Try.prog w 47 47 ty TI g 0 xs.length xs.length ⟨g', o, none⟩ xs.length cap (IA (List.replicate xs.length 0)) TI (xs.map (Value.int .i64)) Try.underlying47 (by kernel_rfl) hg (by simp) (by
      intro j x hj
      rw [List.getElem?_map] at hj
      cases hx : xs[j]? with
      | none => rw [hx] at hj; cases hj
      | some y =>
        rw [hx] at hj
        injection hj with hj
        rw [← hj, add_off]
        obtain ⟨g2, o2, e, h2⟩ := hc j y hx
        injection e with e
        injection e with e1 e2
        rw [e1, e2]
        exact h2) (by simp [IA]) (by
      intro x hx
      obtain ⟨y, _, rfl⟩ := List.mem_map.1 hx
      rfl)
    have h2 := setRow_heap w g (IA (List.replicate xs.length 0)) (IA xs) TI (0, 0) hg
    have e : ((IA (List.replicate xs.length 0)).toList.take 0 ++ xs.map (Value.int .i64) ++ (IA (List.replicate xs.length 0)).toList.drop (0 + (xs.map (Value.int .i64)).length)).toArray = IA xs := by simp [IA]
    rw [e, List.length_map] at this
    exact ⟨_, this, h2, ⟨rfl, rfl, rfl, by simp [World.setRow], fun x hx hne => by simp [World.setRow, Array.getElem?_modify]; exact fun e => absurd e.symm hne⟩⟩
theorem own_made {w : World} {B g : Nat} {xs : List Int} (hg : Mem w g TI (IA xs)) (hB : B ≤ g) (hl : xs.length ≤ maxLen) : OwnI w B (.slice (some ⟨g, 0, none⟩) xs.length xs.length) xs :=
  ⟨by simp [isV], .inr ⟨g, xs.length, IA xs, rfl, hB, hg, Nat.le_refl _, hl, by simp [IA], by simp only [IA, isV, Nat.mul_one]; rw [List.take_of_length_le (by simp)]⟩⟩
/-- The row, all of it cut off. -/
theorem own_cut {w : World} {B : Nat} {A : Option Addr} {n c : Nat} {xs : List Int} (h : OwnI w B (.slice A n c) xs) : OwnI w B (.slice A 0 c) [] := by
  refine ⟨rfl, ?_⟩
  rcases h.2 with ⟨e, _⟩ | ⟨g, cap, cur, e, h1, h2, h3, h4, h5, h6⟩
  · injection e with e1 e2 e3
    subst e1 e3
    exact .inl ⟨rfl, rfl⟩
  · injection e with e1 e2 e3
    subst e1 e3
    exact .inr ⟨g, c, cur, rfl, h1, h2, Nat.zero_le _, h4, h5, by simp [isV]⟩
/-- The first place of x in a list from its place k on. -/
theorem in_drop {xs : List Int} {k : Nat} {x y : Int} (h : xs[k]? = some y) (hn : x ≠ y) : (x ∈ xs.drop k) ↔ (x ∈ xs.drop (k + 1)) := by
  have hl := (List.getElem?_eq_some_iff.1 h).1
  have e : xs[k] = y := (List.getElem?_eq_some_iff.1 h).2
  rw [List.drop_eq_getElem_cons hl, List.mem_cons, e]
  exact ⟨fun h => h.resolve_left hn, .inr⟩
theorem in_here {xs : List Int} {k : Nat} {x : Int} (h : xs[k]? = some x) : x ∈ xs := List.mem_of_getElem? h
end Go.Proofs.Ytpjbmbipkmpkhaa.RsA
