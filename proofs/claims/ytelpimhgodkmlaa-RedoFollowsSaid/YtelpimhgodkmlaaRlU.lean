/-
  Rows of words (uint64) of the call's own, as RsA has them of integers; contract of strongtxkit.Words; a row with one cell turned.
-/
import Derived.Test.YtelpimhgodkmlaaRsA
import Derived.BigQuiet
namespace Go.Proofs.Ytelpimhgodkmlaa.RlU
open Go.ChangeShapes Go.WideShapes Go.ChangeAt Go.RowKit
open PlainT BlkW CelS CelM CelV CelN LabD FreV FreI RsA
set_option linter.unusedVariables false
set_option maxHeartbeats 1000000
set_option maxRecDepth 100000
abbrev TU : TypeId := 28
/-- A slice of words that reads as xs; the empty one may be nil. -/
def RdW (w : World) (v : Value) (xs : List Int) : Prop := ∃ p cap, v = .slice p xs.length cap ∧ ∀ j x, xs[j]? = some x → ∃ g o, p = some ⟨g, o, none⟩ ∧ w.cell? ⟨g, o + j, none⟩ = some (.int .u64 x)
/-- The words of a row as its cells. -/
def usV (xs : List Int) : List Value := xs.map (Value.int .u64)
theorem usV_push (xs : List Int) (x : Int) : usV (xs ++ [x]) = usV xs ++ [.int .u64 x] := by simp [usV]
abbrev OwnW (w : World) (B : Nat) (v : Value) (xs : List Int) : Prop := w.ownsRow B TU 1 v xs.length (usV xs)
theorem push_w {B : Nat} {w : World} (hB : B ≤ w.heap.size) {v : Value} {xs : List Int} (hown : OwnW w B v xs) (hn : xs.length ≤ 300000) (x : Int) :
    ∃ A c w', (Builtin.append_ #[35, 35] 35 #[v, .slice (some ⟨w.heap.size, 0, none⟩) 1 1]).run Try.prog (w.alloc (.cells #[.int .u64 x] TU)) = .ok (.slice A (xs.length + 1) c) w' ∧
      OwnW w' B (.slice A (xs.length + 1) c) (xs ++ [x]) ∧ Below B w w' ∧ (∀ g2, g2 < w.heap.size → v.ownBlock ≠ some g2 → w'.heap[g2]? = w.heap[g2]?) ∧ ((Value.slice A (xs.length + 1) c).ownBlock = v.ownBlock ∨ ∃ g, (Value.slice A (xs.length + 1) c).ownBlock = some g ∧ w.heap.size ≤ g) := by
  obtain ⟨i0, hi, hz0, hz1, hz2⟩ : ∃ i, Try.prog.info? TU = some i ∧ i.zero = some (.int .u64 0) ∧ i.size = 1 ∧ i.bytes = 8 := ⟨_, rfl, by kernel_rfl, by kernel_rfl, by kernel_rfl⟩
  have hown1 := hown.alloc (.cells #[.int .u64 x] TU)
  obtain ⟨v', w', hrun, hown', hgr, _, hat⟩ := run_append_own_at (P := Try.prog) (w := w.alloc (.cells #[.int .u64 x] TU)) B 35 35 TU i0 _ 1 8 Try.underlying35 hi hz0 hz1 hz2 rfl (by decide) v xs.length (usV xs) hown1 ⟨w.heap.size, 0, none⟩ 1 1 [.int .u64 x] rfl (cell_lit (W := w) (l := [.int .u64 x])) (by simp [Value.oneCell'])
    (by unfold maxLen; omega) (by omega) (by rw [size_new]; omega)
  obtain ⟨A, c, rfl, _⟩ := own_slice hown'
  refine ⟨A, c, w', hrun, ?_, ((Below.refl B w).alloc hB _).grown hgr (by rw [size_new]; omega) (fun k hk => (own_row hown1 k hk).1), fun g2 hg2 hne => ?_, ?_⟩
  · unfold OwnW
    rw [List.length_append, usV_push]
    exact hown'
  · exact (hgr.block g2 (by rw [size_new]; omega) (fun e => hne e.symm)).trans (BlkW.heap_alloc_old w _ g2 hg2)
  · rcases hat with h | h
    · exact .inl h
    · exact .inr ⟨_, h, by rw [size_new]; omega⟩
section
variable {w w' : World} {B : Nat} {v : Value} {xs : List Int}
theorem rdw_own (h : OwnW w B v xs) : RdW w v xs := by
  rcases Nat.eq_zero_or_pos xs.length with h0 | h0
  · obtain ⟨A, c, rfl, _⟩ := own_slice h
    exact ⟨A, c, rfl, fun j x hj => by
      have := (List.getElem?_eq_some_iff.1 hj).1
      omega⟩
  · obtain ⟨g, cap, cur, rfl, _, _, _, hc⟩ := own_cells h h0
    refine ⟨some ⟨g, 0, none⟩, cap, rfl, fun j x hj => ⟨g, 0, rfl, ?_⟩⟩
    have hl := (List.getElem?_eq_some_iff.1 hj).1
    rw [Nat.zero_add, hc j (by omega)]
    unfold usV
    rw [List.getElem?_map, hj]
    rfl
theorem rdw_below (h : RdW w v xs) (hb : Below w.heap.size w w') : RdW w' v xs := by
  obtain ⟨p, cap, rfl, hc⟩ := h
  refine ⟨p, cap, rfl, fun j x hj => ?_⟩
  obtain ⟨g, o, rfl, hx⟩ := hc j x hj
  exact ⟨g, o, rfl, (World.cell?_of_block (hb.block g (World.block_lt_of_cell? _ _ hx))).trans hx⟩
theorem rdw_slice (h : RdW w v xs) : ∃ p cap, v = .slice p xs.length cap := let ⟨p, c, e, _⟩ := h; ⟨p, c, e⟩
end
/-! A row that is made, and filled by copy. -/
def WA (xs : List Int) : Array Value := (xs.map (Value.int .u64)).toArray
theorem made_w (n : Nat) : madeCells (Value.int .u64 0).cells n = WA (List.replicate n 0) := by
  apply Array.ext
  · simp [size_madeCells, WA]
  · intro i h1 h2
    simp [madeCells, WA, Value.cells, Nat.mod_one]
theorem make_w (w : World) (n : Nat) (h : n ≤ 1000000) : (Instr.makeSlice 35 (.int .i64 n) (.int .i64 n)).run Try.prog w = .ok (.slice (some ⟨w.heap.size, 0, none⟩) n n) (w.alloc (.cells (WA (List.replicate n 0)) TU)) := by
  obtain ⟨i, hi, hz, hs, hb⟩ : ∃ i, Try.prog.info? TU = some i ∧ i.zero = some (.int .u64 0) ∧ i.size = 1 ∧ i.bytes = 8 := ⟨_, rfl, by kernel_rfl, by kernel_rfl, by kernel_rfl⟩
  have := run_make (P := Try.prog) w 35 TU i (.int .u64 0) Try.underlying35 hi hz .i64 .i64 n n (by omega) (Int.le_refl _) (by rw [hb]; omega) (by omega)
  rw [this, hs, Nat.mul_one, made_w]
  simp
theorem copy_w {w : World} {g n : Nat} {xs : List Int} {v : Value} (hg : Mem w g TU (WA (List.replicate n 0))) (hn : n = xs.length) (hs : RdW w v xs) (ty : TypeId) :
    ∃ w', (Builtin.copy_ #[35, 35] ty #[.slice (some ⟨g, 0, none⟩) n n, v]).run Try.prog w = .ok (goInt n) w' ∧ Mem w' g TU (WA xs) ∧ Fr (fun x => x = g) w w' := by
  subst hn
  obtain ⟨p, cap, rfl, hc⟩ := hs
  rcases Nat.eq_zero_or_pos xs.length with h0 | h0
  · have hx := List.eq_nil_of_length_eq_zero h0
    subst hx
    exact ⟨w, run_copy_none (P := Try.prog) w 35 35 ty TU _ p 0 0 0 cap Try.underlying35 (by kernel_rfl) (by simp), hg, Fr.refl _ _⟩
  · obtain ⟨g', o, rfl, _⟩ := hc 0 (xs[0]'h0) (by rw [List.getElem?_eq_getElem])
    have := run_copy_row Try.prog w 35 35 ty TU g 0 xs.length xs.length ⟨g', o, none⟩ xs.length cap (WA (List.replicate xs.length 0)) TU (xs.map (Value.int .u64)) Try.underlying35 (by kernel_rfl) hg (by simp) (by
      intro j x hj
      rw [List.getElem?_map] at hj
      cases hx : xs[j]? with
      | none => rw [hx] at hj; cases hj
      | some y =>
        rw [hx] at hj
        injection hj with hj
        rw [← hj, add_off]
        obtain ⟨g2, o2, e, h2⟩ := hc j y hx
        injection e with e
        injection e with e1 e2
        rw [e1, e2]
        exact h2) (by simp [WA]) (by
      intro x hx
      obtain ⟨y, _, rfl⟩ := List.mem_map.1 hx
      rfl)
    have h2 := setRow_heap w g (WA (List.replicate xs.length 0)) (WA xs) TU (0, 0) hg
    have e : ((WA (List.replicate xs.length 0)).toList.take 0 ++ xs.map (Value.int .u64) ++ (WA (List.replicate xs.length 0)).toList.drop (0 + (xs.map (Value.int .u64)).length)).toArray = WA xs := by simp [WA]
    rw [e, List.length_map] at this
    exact ⟨_, this, h2, ⟨rfl, rfl, rfl, by simp [World.setRow], fun x hx hne => by simp [World.setRow, Array.getElem?_modify]; exact fun e => absurd e.symm hne⟩⟩
theorem own_madew {w : World} {B g : Nat} {xs : List Int} (hg : Mem w g TU (WA xs)) (hB : B ≤ g) (hl : xs.length ≤ maxLen) : OwnW w B (.slice (some ⟨g, 0, none⟩) xs.length xs.length) xs :=
  ⟨by simp [usV], .inr ⟨g, xs.length, WA xs, rfl, hB, hg, Nat.le_refl _, hl, by simp [WA], by simp only [WA, usV, Nat.mul_one]; rw [List.take_of_length_le (by simp)]⟩⟩
/-- The row, all of it cut off. -/
theorem own_cutw {w : World} {B : Nat} {A : Option Addr} {n c : Nat} {xs : List Int} (h : OwnW w B (.slice A n c) xs) : OwnW w B (.slice A 0 c) [] := by
  refine ⟨rfl, ?_⟩
  rcases h.2 with ⟨e, _⟩ | ⟨g, cap, cur, e, h1, h2, h3, h4, h5, h6⟩
  · injection e with e1 e2 e3
    subst e1 e3
    exact .inl ⟨rfl, rfl⟩
  · injection e with e1 e2 e3
    subst e1 e3
    exact .inr ⟨g, c, cur, rfl, h1, h2, Nat.zero_le _, h4, h5, by simp [usV]⟩
theorem rdw_nil (w : World) : RdW w (.slice none 0 0) [] := ⟨none, 0, rfl, fun j x hj => by simp at hj⟩
theorem k_words (w : World) (v1 v2 : Value) (xs : List Int) (h1 : RdW w v1 xs) (h2 : RdW w v2 xs) (hl : xs.length ≤ 1000) : Calls Try.prog 17 #[v1, v2] w fun e w' => e = .returned (.bool true) ∧ Ws w w' := by
  obtain ⟨p1, c1, rfl, hc1⟩ := h1
  obtain ⟨p2, c2, rfl, hc2⟩ := h2
  obtain ⟨n, hn⟩ : ∃ n, xs.length = n := ⟨_, rfl⟩
  rw [hn] at hl ⊢
  have HN := Lib.hid hn
  have H1 := Lib.hid hc1
  have H2 := Lib.hid hc2
  clear hn hc1 hc2
  go_enter Try.func17, Try.ntmps17
  go_wp2_with fail
  go_loopw [5] (fun kv wr => ∃ k : Nat, k ≤ n ∧ kv = .int .i64 k ∧ Ws w wr) (fun kv _ => n - (intOf kv).toNat)
  case atStart => exact ⟨0, by omega, rfl, 0, rfl⟩
  case round =>
    obtain ⟨k, hk, rfl, hws⟩ := hrel
    have HW := Lib.hid hws
    clear hws
    by_cases hlt : k < n
    · have hlk : (k : Int) < n := by omega
      obtain ⟨x, hx⟩ : ∃ x, xs[k]? = some x := ⟨xs[k]'(by rw [HN.out]; exact hlt), by rw [List.getElem?_eq_getElem]⟩
      obtain ⟨ga, oa, rfl, hca⟩ := H1.out k x hx
      obtain ⟨gb, ob, rfl, hcb⟩ := H2.out k x hx
      have e1 : wr.cell? ⟨ga, oa + k, none⟩ = some (.int .u64 x) := by
        obtain ⟨nd, rfl⟩ := HW.out
        exact hca
      have e2 : wr.cell? ⟨gb, ob + k, none⟩ = some (.int .u64 x) := by
        obtain ⟨nd, rfl⟩ := HW.out
        exact hcb
      clear hca hcb hx hk
      go_upto_region 6 with (fail)
      go_quiet (fail)
      go_wp2_with fail
      go_roundw
      case rel =>
        obtain ⟨nd, rfl⟩ := HW.out
        exact ⟨k + 1, by omega, by go_num, nd + nq, by rw [World.drewN_drewN]⟩
      case measure => simp [intOf]; omega
    · obtain rfl : k = n := by omega
      clear hlt hk
      go_wp2_with fail
      go_ret
      exact ⟨rfl, HW.out⟩
/-! A cell of an own row turned. -/
theorem own_seti {w : World} {B g n cap : Nat} {xs : List Int} (h : OwnI w B (.slice (some ⟨g, 0, none⟩) n cap) xs) (i : Nat) (x : Int) : OwnI (w.setCell ⟨g, i, none⟩ (.int .i64 x)) B (.slice (some ⟨g, 0, none⟩) n cap) (xs.set i x) := by
  obtain ⟨A, c, hv, _⟩ := own_slice h
  injection hv with _ hn _
  subst hn
  have := (World.ownsRow.stored h i (.int .i64 x)).1
  unfold OwnI
  rw [List.length_set]
  have hu : isV (xs.set i x) = (isV xs).set i (.int .i64 x) := by unfold isV; rw [List.map_set]
  rw [hu]
  exact this
theorem own_setw {w : World} {B g n cap : Nat} {xs : List Int} (h : OwnW w B (.slice (some ⟨g, 0, none⟩) n cap) xs) (i : Nat) (x : Int) : OwnW (w.setCell ⟨g, i, none⟩ (.int .u64 x)) B (.slice (some ⟨g, 0, none⟩) n cap) (xs.set i x) := by
  obtain ⟨A, c, hv, _⟩ := own_slice h
  injection hv with _ hn _
  subst hn
  have := (World.ownsRow.stored h i (.int .u64 x)).1
  unfold OwnW
  rw [List.length_set]
  have hu : usV (xs.set i x) = (usV xs).set i (.int .u64 x) := by unfold usV; rw [List.map_set]
  rw [hu]
  exact this
/-- An own row that is not empty: where it lies. -/
theorem own_ptri {w : World} {B : Nat} {v : Value} {xs : List Int} (h : OwnI w B v xs) (hn : 0 < xs.length) : ∃ g cap, v = .slice (some ⟨g, 0, none⟩) xs.length cap ∧ v.ownBlock = some g ∧ ∀ j x, xs[j]? = some x → w.cell? ⟨g, j, none⟩ = some (.int .i64 x) ∧ w.frozen? ⟨g, j, none⟩ = false := by
  obtain ⟨g, cap, cur, rfl, _, hm, _, hc⟩ := own_cells h hn
  refine ⟨g, cap, rfl, rfl, fun j x hj => ?_⟩
  have hl := (List.getElem?_eq_some_iff.1 hj).1
  refine ⟨?_, ?_⟩
  · rw [hc j (by omega)]
    unfold isV
    rw [List.getElem?_map, hj]
    rfl
  · exact Mem.frozen hm j
theorem own_ptrw {w : World} {B : Nat} {v : Value} {xs : List Int} (h : OwnW w B v xs) (hn : 0 < xs.length) : ∃ g cap, v = .slice (some ⟨g, 0, none⟩) xs.length cap ∧ v.ownBlock = some g ∧ ∀ j x, xs[j]? = some x → w.cell? ⟨g, j, none⟩ = some (.int .u64 x) ∧ w.frozen? ⟨g, j, none⟩ = false := by
  obtain ⟨g, cap, cur, rfl, _, hm, _, hc⟩ := own_cells h hn
  refine ⟨g, cap, rfl, rfl, fun j x hj => ?_⟩
  have hl := (List.getElem?_eq_some_iff.1 hj).1
  refine ⟨?_, ?_⟩
  · rw [hc j (by omega)]
    unfold usV
    rw [List.getElem?_map, hj]
    rfl
  · exact Mem.frozen hm j
end Go.Proofs.Ytelpimhgodkmlaa.RlU
