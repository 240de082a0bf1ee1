/-
  Contracts of Uses, Sets, Place, Skips and Format of package isa.
-/
import Derived.Test.YteccmhkjbidkpaaDoorIsaA
import Derived.Lib.OwnBridge
import Derived.Sort.OwnSortedInts
import Derived.Lib.SlicesCompact
namespace Go.Proofs.YteccmhkjbidkpaaDoor.IsaB
open Go.ChangeShapes Go.WideShapes Go.ChangeAt Go.RowKit
open PlainT IsaE IsaS BlkW IsaA
set_option linter.unusedVariables false
set_option maxHeartbeats 400000

/-! ### Lists of integers in memory. -/
/-- The slice '.slice A n c' holds the numbers zs. -/
def Row (w : World) (A : Option Addr) (n : Nat) (zs : List Int) : Prop :=
  zs.length = n ∧ (0 < n → ∃ b off : Nat, A = some ⟨b, off, none⟩ ∧ b < w.heap.size ∧ ∀ i, i < n → w.cell? ⟨b, off + i, none⟩ = some (.int .i64 (zs.getD i 0)))
theorem Row.nil (w : World) (A : Option Addr) : Row w A 0 [] := ⟨rfl, fun h => absurd h (by omega)⟩
theorem Row.old {w w' : World} {A : Option Addr} {n : Nat} {zs : List Int} (h : Row w A n zs) (k : Old w w') : Row w' A n zs :=
  ⟨h.1, fun hn => by
    obtain ⟨b, off, e, hb, hc⟩ := h.2 hn
    exact ⟨b, off, e, Nat.lt_of_lt_of_le hb k.1, fun i hi => (k.cell (p := ⟨b, off + i, none⟩) hb).trans (hc i hi)⟩⟩
theorem Row.of_own {w : World} {base : Nat} {e : TypeId} {v : Value} {n : Nat} {zs : List Int} (h : w.ownsRow base e 1 v n (zs.map (Value.int .i64))) : ∃ A c, v = .slice A n c ∧ n ≤ c ∧ c ≤ maxLen ∧ Row w A n zs := by
  by_cases hv : v = .slice none 0 0
  · subst hv
    rcases h.2 with ⟨_, hn⟩ | ⟨g, cap, cur, e0, _⟩
    · subst hn
      have hz : zs = [] := by simpa using h.1
      subst hz
      exact ⟨none, 0, rfl, Nat.le_refl _, Nat.zero_le _, Row.nil _ _⟩
    · cases e0
  · obtain ⟨g, cap, rfl, hb, hlt, hn, hm, hl, hH⟩ := Lib.holds_of_ownsRow h hv
    refine ⟨_, _, rfl, hn, hm, hl, fun _ => ⟨g, 0, rfl, hlt, fun i hi => ?_⟩⟩
    have hi' : i < zs.length := by omega
    have := (hH i (by simpa using hi')).1
    rw [this]
    simp [getElem!_pos, hi']
/-- A new slice of the call's own that holds zs. -/
def SliceIs (w : World) (zs : List Int) (e : Ending) (w' : World) : Prop := ∃ A n c, e = .returned (.slice A n c) ∧ n ≤ c ∧ c ≤ maxLen ∧ Row w' A n zs ∧ Below w.heap.size w w'

theorem grown_below {B : Nat} {a w w' : World} {row : Option Nat} (h : Below B a w) (hg : w.grownBy w' row) (hB : B ≤ w.heap.size) (hr : ∀ g, row = some g → B ≤ g) : Below B a w' :=
  ⟨hg.os.trans h.os, hg.tape.trans h.tape, hg.output.trans h.output, Nat.le_trans h.size hg.size, fun i hi => (hg.block i (Nat.lt_of_lt_of_le hi hB) (fun e => by have := hr i e.symm; omega)).trans (h.block i hi)⟩
theorem grown_mem {w w' : World} {g : Nat} {t : TypeId} {cs : Array Value} {row : Option Nat} (h : Mem w g t cs) (hg : w.grownBy w' row) (hr : ∀ q, row = some q → g < q) : Mem w' g t cs :=
  (hg.block g h.lt (fun e => by have := hr g e.symm; omega)).trans h
theorem grown_it {w w' : World} {g : Nat} {s : ByteArray} {p : Nat} {row : Option Nat} (h : It w g s p) (hg : w.grownBy w' row) (hr : ∀ q, row = some q → g < q) : It w' g s p :=
  (hg.block g h.lt (fun e => by have := hr g e.symm; omega)).trans h

/-! ### Sorting and compacting a row of the call's own. -/
theorem a_sort {w : World} {base : Nat} {v : Value} {n : Nat} {zs : List Int} (hn62 : n < 4611686018427387904) (h : w.ownsRow base 3 1 v n (zs.map (Value.int .i64))) :
    Calls Tryd.prog 34 #[v] w fun e w' => e = .returned (.tuple #[]) ∧ w'.ownsRow base 3 1 v n ((zs.mergeSort fun x y => decide (x ≤ y)).map (Value.int .i64)) ∧ w.grownBy w' v.ownBlock := by
  by_cases hv : v = .slice none 0 0
  · subst hv
    rcases h.2 with ⟨_, hn⟩ | ⟨g, cap, cur, e0, _⟩
    · subst hn
      have hz : zs = [] := by simpa using h.1
      subst hz
      refine (Tryd.slices_Sort_int_none none 0 w).mono ?_
      rintro e w' ⟨rfl, rfl⟩
      exact ⟨rfl, by simpa using h, ⟨rfl, rfl, rfl, Nat.le_refl _, fun _ _ _ => rfl⟩⟩
    · cases e0
  · obtain ⟨g, cap, rfl, hb, hlt, hn, hm, hl, hH⟩ := Lib.holds_of_ownsRow h hv
    subst hl
    rcases h.2 with ⟨e0, _⟩ | ⟨g', cap', cur, e0, hbg, hg, hn', hm', hs, ht⟩
    · cases e0
    · injection e0 with e1 _ e3
      injection e1 with e1
      injection e1 with e1
      subst e1; subst e3
      refine (Tryd.slices_Sort_int g 0 cap zs w hH hlt hn62).mono ?_
      rintro e w' ⟨rfl, q, os, rfl⟩
      exact ⟨rfl, Go.ownsRow_sortedI (List.length_mergeSort zs) hb hg hn hm hs, Go.grownBy_sortedI _⟩
theorem grownBy_putRow {w : World} {g n : Nat} (d : Array Int) : w.grownBy (Sort.putRow (Value.int .i64) (Sort.ahead w n) g 0 d) (some g) := by
  refine ⟨rfl, rfl, rfl, by simp [Sort.ahead], fun k hk hne => ?_⟩
  have : g ≠ k := fun e => hne (by rw [e])
  simp [Sort.putRow, Sort.mapBlock, Sort.ahead, Array.getElem?_modify, this]
theorem a_compact {w : World} {base : Nat} {v : Value} {n : Nat} {zs : List Int} (h : w.ownsRow base 3 1 v n (zs.map (Value.int .i64))) :
    Calls Tryd.prog 35 #[v] w fun e w' => ∃ v', e = .returned v' ∧ w'.ownsRow base 3 1 v' (Lib.compact zs).length ((Lib.compact zs).map (Value.int .i64)) ∧ w.grownBy w' v.ownBlock := by
  by_cases hv : v = .slice none 0 0
  · subst hv
    rcases h.2 with ⟨_, hn⟩ | ⟨g, cap, cur, e0, _⟩
    · subst hn
      have hz : zs = [] := by simpa using h.1
      subst hz
      refine (Tryd.slices_Compact_int_empty none 0 w).mono ?_
      rintro e w' ⟨rfl, rfl⟩
      exact ⟨_, rfl, h, ⟨rfl, rfl, rfl, Nat.le_refl _, fun _ _ _ => rfl⟩⟩
    · cases e0
  · obtain ⟨g, cap, rfl, hb, hlt, hn, hm, hl, hH⟩ := Lib.holds_of_ownsRow h hv
    subst hl
    refine (Tryd.slices_Compact_int g 0 cap zs w hH (by unfold maxLen at hm; omega) hn).mono ?_
    rintro e w' ⟨rfl, q, rfl⟩
    have hle : (Lib.compact zs).length ≤ zs.length := by
      unfold Lib.compact Lib.compactUpTo
      rw [List.length_map]
      exact Nat.le_trans (List.length_filter_le _ _) (by simp)
    have := Lib.ownsRow_putRow (q := q) (k := (Lib.compact zs).length) (ys := Lib.compact zs ++ List.replicate (zs.length - (Lib.compact zs).length) 0) h (by rw [List.length_append, List.length_replicate]; omega) hle
    rw [List.take_left] at this
    exact ⟨_, rfl, this, grownBy_putRow _⟩

/-! ### Check, by its value. -/
theorem a_check_v {op a b c i v : Int} (hv : chk op a b c i = v) (w : World) (h : Env w) : Calls Tryd.prog 11 #[ins op a b c i] w fun e w' => e = .returned (.int .i64 v) ∧ Below w.heap.size w w' := by
  subst hv
  exact a_check op a b c i w h
theorem chk_cases (op a b c i : Int) : chk op a b c i = 0 ∧ 0 ≤ op ∧ op < 18 ∨ chk op a b c i = 10 ∨ chk op a b c i = 11 := by
  unfold chk
  by_cases h : 0 ≤ op ∧ op < 18
  · rw [if_pos h]
    by_cases hf : fit op.toNat a b c i = true
    · rw [if_pos hf]; exact .inl ⟨rfl, h⟩
    · rw [if_neg hf]; exact .inr (.inr rfl)
  · rw [if_neg h]; exact .inr (.inl rfl)

/-! ### Uses. -/
def usesL (k : Nat) : List UInt8 := opUses.getD k []
def usesB (k : Nat) : ByteArray := ⟨(usesL k).toArray⟩
def fldV (a b c : Int) (l : UInt8) : Int := if l = 97 then a else if l = 98 then b else if l = 99 then c else 0
def vals (k : Nat) (a b c : Int) : List Int := (usesL k).map (fldV a b c)
/-- Ascending, each once. -/
def twoU (zs : List Int) : List Int := Lib.compact (zs.mergeSort fun x y => decide (x ≤ y))
def usesV (op a b c i : Int) : List Int := if chk op a b c i = 0 then twoU (vals op.toNat a b c) else []
theorem usesV_ok {k : Nat} {a b c i : Int} (h : chk k a b c i = 0) : usesV k a b c i = twoU (vals k a b c) := by unfold usesV; rw [if_pos h, Int.toNat_natCast]
theorem usesV_no {op a b c i : Int} (h : chk op a b c i ≠ 0) : usesV op a b c i = [] := by unfold usesV; rw [if_neg h]
theorem uses_at (k p : Nat) (hp : p < (usesL k).length) : ∃ l : UInt8, (l = 97 ∨ l = 98 ∨ l = 99) ∧ (usesL k).take (p + 1) = (usesL k).take p ++ [l] ∧ ∀ h, (usesB k)[p]'h = l := by
  refine ⟨(usesL k)[p], ?_, take_snoc _ p hp, fun h => rfl⟩
  by_cases hk : k < 18
  · have all : ∀ k : Fin 18, ∀ l ∈ usesL k.val, l = 97 ∨ l = 98 ∨ l = 99 := by decide
    exact all ⟨k, hk⟩ _ (List.getElem_mem hp)
  · exfalso
    unfold usesL at hp
    rw [List.getD_eq_getElem?_getD, List.getElem?_eq_none (by show 18 ≤ k; omega)] at hp
    simp at hp
theorem uses_le (k : Nat) : (usesL k).length ≤ 2 := by
  by_cases hk : k < 18
  · have all : ∀ k : Fin 18, (usesL k.val).length ≤ 2 := by decide
    exact all ⟨k, hk⟩
  · unfold usesL
    rw [List.getD_eq_getElem?_getD, List.getElem?_eq_none (by show 18 ≤ k; omega)]
    decide
theorem shape_uses {w : World} (h : Env w) (k : Nat) (hk : k < 18) : w.cell? ⟨0, k * 5 + 2, none⟩ = some (.string (usesB k)) := by
  rw [shape_cell h k 2 hk (by omega)]
  rcases op_cases hk with rfl | rfl | rfl | rfl | rfl | rfl | rfl | rfl | rfl | rfl | rfl | rfl | rfl | rfl | rfl | rfl | rfl | rfl <;> rfl
theorem next_use (k p : Nat) (l : UInt8) (hp : p < (usesL k).length) (hl : l = 97 ∨ l = 98 ∨ l = 99) (hs : ∀ h, (usesB k)[p]'h = l) {g : Nat} {wr : World} (hit : It wr g (usesB k) p) :
    ∀ ty, (Instr.next (.pointer (some ⟨g, 0, none⟩)) true ty).run Tryd.prog wr = .ok (.tuple #[.bool true, .int .i64 p, .int .i32 (l.toNat : Int)]) (wr.iterAt g (usesB k) (p + 1)) := by
  intro ty
  have hltB : p < (usesB k).size := hp
  have hasc : ((usesB k)[p]'hltB).toNat < 128 := by
    rw [hs hltB]
    rcases hl with e | e | e <;> rw [e] <;> decide
  have := Lib.run_next_ascii_at (P := Tryd.prog) wr g (usesB k) p ty hit hltB hasc
  rw [hs hltB] at this
  exact this
theorem next_use_end (k p : Nat) (hp : ¬ p < (usesL k).length) {g : Nat} {wr : World} (hit : It wr g (usesB k) p) : ∀ ty, (Instr.next (.pointer (some ⟨g, 0, none⟩)) true ty).run Tryd.prog wr = .ok (.tuple #[.bool false]) wr := fun ty => Lib.run_next_end_at wr g (usesB k) p ty hit hp

theorem a_uses_no (op a b c i v : Int) (hv : chk op a b c i = v) (h0 : v = 10 ∨ v = 11) (w : World) (h : Env w) : Calls Tryd.prog 14 #[ins op a b c i] w fun e w' => e = .returned (.slice none 0 0) ∧ Below w.heap.size w w' := by
  show Calls _ _ #[.agg _] _ _
  have HV := Lib.hid hv
  clear hv
  rcases h0 with rfl | rfl
  all_goals
    go_enter Tryd.func14, Tryd.ntmps14
    go_wp2_with (go_at_call 11; refine (a_check_v HV.out _ (h.alloc _)).mono ?_; rintro e w1 ⟨rfl, hb1⟩)
    go_ret
    exact ⟨rfl, (below_new _ _).trans (hb1.mono (by simp))⟩
def boxed (op a b c i : Int) : Array Value := #[.int .i64 op, .int .i64 a, .int .i64 b, .int .i64 c, .int .i64 i]
theorem boxed_cell {w : World} {g : Nat} {t : TypeId} {op a b c i : Int} (h : Mem w g t (boxed op a b c i)) {l : UInt8} (hl : l = 97 ∨ l = 98 ∨ l = 99) : w.cell? ⟨g, fld l.toNat, none⟩ = some (.int .i64 (fldV a b c l)) := by
  rw [h.cell]
  rcases hl with rfl | rfl | rfl <;> rfl
theorem vals_step {k p : Nat} {l : UInt8} {a b c : Int} (e : (usesL k).take (p + 1) = (usesL k).take p ++ [l]) : ((vals k a b c).take (p + 1)) = (vals k a b c).take p ++ [fldV a b c l] := by
  unfold vals
  rw [← List.map_take, e, List.map_append, ← List.map_take]
  rfl
theorem a_field_any (b : Nat) (c : Int) (f : Nat) (hf : fld c = f) (w : World) : Calls Tryd.prog 31 #[.pointer (some ⟨b, 0, none⟩), .int .i32 c] w fun e w' => e = .returned (.pointer (some ⟨b, f, none⟩)) ∧ w = w' := by
  subst hf
  exact a_field b c w
theorem info_int : (Tryd.prog.info? 3).map (fun i => (i.zero, i.size, i.bytes)) = some (some (.int .i64 0), 1, 8) := by kernel_rfl
theorem info_string : (Tryd.prog.info? 9).map (fun i => (i.zero, i.size, i.bytes)) = some (some (.string ⟨#[]⟩), 1, 16) := by kernel_rfl
set_option maxRecDepth 100000 in
theorem a_uses_yes (k : Nat) (hk : k < 18) (a b c i : Int) (hv : chk k a b c i = 0) (w : World) (h : Env w) : Calls Tryd.prog 14 #[ins k a b c i] w fun e w' => SliceIs w (twoU (vals k a b c)) e w' := by
  show Calls _ _ #[.agg _] _ _
  have HV := Lib.hid hv
  have HK := Lib.hid hk
  clear hv
  obtain ⟨i0, hi, hz0, hz1, hz2⟩ := info_parts info_int
  go_enter Tryd.func14, Tryd.ntmps14
  go_wp2_with fail
  refine (a_check_v HV.out _ (h.alloc _)).mono ?_
  rintro e w1 ⟨rfl, hb1⟩
  have hE1 : Env w1 := (h.alloc _).below hb1
  have hm1 : Mem w1 w.heap.size 23 (boxed k a b c i) := (Mem.new w 23 (boxed k a b c i)).below hb1 (by simp)
  have hcell := shape_uses hE1 k HK.out
  have hop : w1.cell? ⟨w.heap.size, 0, none⟩ = some (.int .i64 k) := hm1.cell 0
  have hbw := (below_new w (.cells (boxed k a b c i) 23)).trans (hb1.mono (by simp))
  have hlt1 := hm1.lt
  clear hb1 h hE1
  go_wp2
  go_loopw [3] (fun v wr => ∃ p, p ≤ (usesL k).length ∧ It wr w1.heap.size (usesB k) p ∧ Mem wr w.heap.size 23 (boxed k a b c i) ∧ wr.ownsRow (w1.heap.size + 1) 3 1 v p (((vals k a b c).take p).map (Value.int .i64)) ∧ Below w.heap.size w wr ∧ w1.heap.size < wr.heap.size) (fun _ wr => (usesL k).length - wr.iterPos w1.heap.size)
  case atStart => exact ⟨0, Nat.zero_le _, it_new _ _, hm1.alloc _, World.ownsRow_nil _ _ _ _, hbw.alloc (by omega) _, by rw [show (w1.iter (usesB k) 0).heap.size = w1.heap.size + 1 from size_new _ _]; omega⟩
  case round =>
    obtain ⟨p, hp, hit, hm, hown, hb, hsz⟩ := hrel
    clear hcell hop hm1 hbw
    by_cases hlt : p < (usesL k).length
    · obtain ⟨l, hl, hts, hs⟩ := uses_at k p hlt
      have hnx := next_use k p l hlt hl hs hit
      have hm2 := hm.iterAt (k := w1.heap.size) (s := usesB k) (q := p + 1) (by omega)
      have hit2 := hit.on (p + 1)
      have hown2 := own_iterAt hown hit (p + 1)
      have hb2 := below_iter hb (k := w1.heap.size) (by omega) (usesB k) (p + 1)
      have hld := boxed_cell hm2 hl
      have hvs := Lib.hid (vals_step (a := a) (b := b) (c := c) hts)
      have hpos := Lib.hid hit.pos
      have hu2 := uses_le k
      have hszr : (wr.iterAt w1.heap.size (usesB k) (p + 1)).heap.size = wr.heap.size := Lib.iterAt_size _ _ _ _
      obtain ⟨x, hx⟩ : ∃ x, fldV a b c l = x := ⟨_, rfl⟩
      rw [hx] at hld hvs
      obtain ⟨f, hf⟩ : ∃ f, fld l.toNat = f := ⟨_, rfl⟩
      rw [hf] at hld
      have HF := Lib.hid hf
      have HSZ := Lib.hid hszr
      clear hx hf hs hts hl hszr
      go_wp2_with (first
        | (go_at_call 31; refine (a_field_any _ _ f HF.out _).mono ?_; rintro e w2 ⟨rfl, rfl⟩)
        | (at_builtin; refine wpList_append_own _ rfl _ _ 29 rfl (w1.heap.size + 1) 3 i0 (.int .i64 0) 1 8 Tryd.underlying29 hi hz0 hz1 hz2 rfl (by decide) _ _ _ rfl (hown2.alloc _) ⟨(wr.iterAt w1.heap.size (usesB k) (p + 1)).heap.size, 0, none⟩ 1 1 [.int .i64 x] rfl rfl (cell_one_new _ _ _) ?c2 ?c3 ?c4 ?c5 ?_))
      case c2 => intro u hu; simp at hu; subst hu; rfl
      case c3 => unfold maxLen; omega
      case c4 => omega
      case c5 => rw [size_new]; rw [HSZ.out]; omega
      intro v' w3 hown3 hg3 _
      have hrow : ∀ q, u3.ownBlock = some q → w1.heap.size < q := fun q hq => by have := (hown2.lt q hq).1; omega
      have hm3 := grown_mem (hm2.alloc _) hg3 (fun q hq => by have := hrow q hq; omega)
      have hit3 := grown_it (hit2.alloc _) hg3 hrow
      have hb3 := grown_below (hb2.alloc (by rw [HSZ.out]; omega) _) hg3 (by rw [size_new, HSZ.out]; omega) (fun q hq => by have := hrow q hq; omega)
      have hsz3 : w1.heap.size < w3.heap.size := by have := hg3.size; rw [size_new, HSZ.out] at this; omega
      have hown4 : w3.ownsRow (w1.heap.size + 1) 3 1 v' (p + 1) ((List.take (p + 1) (vals k a b c)).map (Value.int .i64)) := by
        rw [hvs.out, List.map_append, List.map_take]
        exact hown3
      clear hown3
      clear hld hnx hown2 hown hm2 hit2 hb2 hg3 hrow
      go_wp2
      go_roundw
      case rel => exact ⟨p + 1, hlt, hit3, hm3, hown4, hb3, hsz3⟩
      case measure => exact meas hit3.pos hpos.out hlt
    · have hpe : p = (usesL k).length := by omega
      have hnx := next_use_end k p hlt hit
      have hown' : wr.ownsRow (w1.heap.size + 1) 3 1 u3 p ((vals k a b c).map (Value.int .i64)) := by
        rw [List.take_of_length_le (by unfold vals; rw [List.length_map]; omega)] at hown
        exact hown
      have hu2 := uses_le k
      clear hit hm hown
      go_wp2_with fail
      refine (a_sort (by omega) hown').mono ?_
      rintro e w4 ⟨rfl, hown4, hg4⟩
      have hrow : ∀ q, u3.ownBlock = some q → w1.heap.size < q := fun q hq => by have := (hown'.lt q hq).1; omega
      have hb4 := grown_below hb hg4 (by omega) (fun q hq => by have := hrow q hq; omega)
      have hsz4 := hg4.size
      clear hown' hb hg4
      go_wp2_with fail
      refine (a_compact hown4).mono ?_
      rintro e w5 ⟨v5, rfl, hown5, hg5⟩
      have hb5 := grown_below hb4 hg5 (by omega) (fun q hq => by have := hrow q hq; omega)
      go_wp2
      go_ret
      obtain ⟨A, cc, rfl, h1, h2, h3⟩ := Row.of_own hown5
      exact ⟨A, _, cc, rfl, h1, h2, h3, hb5⟩

theorem SliceIs.nil {w w' : World} (h : Below w.heap.size w w') : SliceIs w [] (.returned (.slice none 0 0)) w' := ⟨none, 0, 0, rfl, Nat.le_refl _, Nat.zero_le _, Row.nil _ _, h⟩
/-- Uses returns the registers of the document. -/
theorem a_uses (op a b c i : Int) (w : World) (h : Env w) : Calls Tryd.prog 14 #[ins op a b c i] w fun e w' => SliceIs w (usesV op a b c i) e w' := by
  rcases chk_cases op a b c i with ⟨h0, h1, h2⟩ | h0 | h0
  · obtain ⟨k, rfl⟩ := Int.eq_ofNat_of_zero_le h1
    rw [usesV_ok h0]
    exact a_uses_yes k (by omega) a b c i h0 w h
  · rw [usesV_no (by omega)]
    exact (a_uses_no op a b c i 10 h0 (.inl rfl) w h).mono fun e w' ⟨he, hb⟩ => he ▸ SliceIs.nil hb
  · rw [usesV_no (by omega)]
    exact (a_uses_no op a b c i 11 h0 (.inr rfl) w h).mono fun e w' ⟨he, hb⟩ => he ▸ SliceIs.nil hb

/-! ### Sets, Place, Skips. -/
theorem shape_sets {w : World} (h : Env w) (k : Nat) (hk : k < 18) : w.cell? ⟨0, k * 5 + 3, none⟩ = some (.bool (opSets.getD k false)) := by
  rw [shape_cell h k 3 hk (by omega)]
  rcases op_cases hk with rfl | rfl | rfl | rfl | rfl | rfl | rfl | rfl | rfl | rfl | rfl | rfl | rfl | rfl | rfl | rfl | rfl | rfl <;> rfl
theorem shape_place {w : World} (h : Env w) (k : Nat) (hk : k < 18) : w.cell? ⟨0, k * 5 + 4, none⟩ = some (.int .i64 (opPlaces.getD k 0)) := by
  rw [shape_cell h k 4 hk (by omega)]
  rcases op_cases hk with rfl | rfl | rfl | rfl | rfl | rfl | rfl | rfl | rfl | rfl | rfl | rfl | rfl | rfl | rfl | rfl | rfl | rfl <;> rfl
def setsV (op a b c i : Int) : Int := if chk op a b c i = 0 then (if opSets.getD op.toNat false = true then a else -1) else -1
def placeV (op a b c i : Int) : Int := if chk op a b c i = 0 then opPlaces.getD op.toNat 0 else 0
def skipsB (op a b c i : Int) : Bool := decide (chk op a b c i = 0) && (decide (op = 4) || (decide (op = 5) || decide (op = 6)))
def skipsV (op a b c i : Int) : Int := if skipsB op a b c i = true then i else 0
theorem a_sets_v (op a b c i v : Int) (hv : setsV op a b c i = v) (w : World) (h : Env w) : Calls Tryd.prog 16 #[ins op a b c i] w fun e w' => e = .returned (.int .i64 v) ∧ Below w.heap.size w w' := by
  show Calls _ _ #[.agg _] _ _
  unfold setsV at hv
  rcases chk_cases op a b c i with ⟨h0, h1, h2⟩ | h0 | h0
  · obtain ⟨k, rfl⟩ := Int.eq_ofNat_of_zero_le h1
    have hk : k < 18 := by omega
    have HK := Lib.hid hk
    have HV := Lib.hid h0
    rw [if_pos h0, Int.toNat_natCast] at hv
    clear h0 h1 h2
    cases hs : opSets.getD k false
    all_goals
      rw [hs] at hv
      simp only [if_true, Bool.false_eq_true, if_false] at hv
      subst hv
      have HS := Lib.hid hs
      clear hs
      go_enter Tryd.func16, Tryd.ntmps16
      go_wp2_with fail
      refine (a_check_v HV.out _ (h.alloc _)).mono ?_
      rintro e w1 ⟨rfl, hb1⟩
      have hE1 : Env w1 := (h.alloc _).below hb1
      have hm1 : Mem w1 w.heap.size 23 (boxed k a b c i) := (Mem.new w 23 (boxed k a b c i)).below hb1 (by simp)
      have hcell := shape_sets hE1 k HK.out
      rw [HS.out] at hcell
      have hop : w1.cell? ⟨w.heap.size, 0, none⟩ = some (.int .i64 k) := hm1.cell 0
      have ha : w1.cell? ⟨w.heap.size, 1, none⟩ = some (.int .i64 a) := hm1.cell 1
      have hbw := (below_new w (.cells (boxed k a b c i) 23)).trans (hb1.mono (by simp))
      clear hb1 h hE1 hm1
      go_wp2
      go_ret
      exact ⟨rfl, hbw⟩
  all_goals
    rw [if_neg (by omega)] at hv
    subst hv
    have HV := Lib.hid h0
    clear h0
    go_enter Tryd.func16, Tryd.ntmps16
    go_wp2_with (go_at_call 11; refine (a_check_v HV.out _ (h.alloc _)).mono ?_; rintro e w1 ⟨rfl, hb1⟩)
    go_ret
    exact ⟨rfl, (below_new _ _).trans (hb1.mono (by simp))⟩
theorem a_place_v (op a b c i v : Int) (hv : placeV op a b c i = v) (w : World) (h : Env w) : Calls Tryd.prog 18 #[ins op a b c i] w fun e w' => e = .returned (.int .i64 v) ∧ Below w.heap.size w w' := by
  show Calls _ _ #[.agg _] _ _
  unfold placeV at hv
  rcases chk_cases op a b c i with ⟨h0, h1, h2⟩ | h0 | h0
  · obtain ⟨k, rfl⟩ := Int.eq_ofNat_of_zero_le h1
    have hk : k < 18 := by omega
    have HK := Lib.hid hk
    have HV := Lib.hid h0
    rw [if_pos h0, Int.toNat_natCast] at hv
    have HP := Lib.hid hv
    clear h0 h1 h2 hv
    go_enter Tryd.func18, Tryd.ntmps18
    go_wp2_with fail
    refine (a_check_v HV.out _ (h.alloc _)).mono ?_
    rintro e w1 ⟨rfl, hb1⟩
    have hE1 : Env w1 := (h.alloc _).below hb1
    have hm1 : Mem w1 w.heap.size 23 (boxed k a b c i) := (Mem.new w 23 (boxed k a b c i)).below hb1 (by simp)
    have hcell := shape_place hE1 k HK.out
    rw [HP.out] at hcell
    have hop : w1.cell? ⟨w.heap.size, 0, none⟩ = some (.int .i64 k) := hm1.cell 0
    have hbw := (below_new w (.cells (boxed k a b c i) 23)).trans (hb1.mono (by simp))
    clear hb1 h hE1 hm1
    go_wp2
    go_ret
    exact ⟨rfl, hbw⟩
  all_goals
    rw [if_neg (by omega)] at hv
    subst hv
    have HV := Lib.hid h0
    clear h0
    go_enter Tryd.func18, Tryd.ntmps18
    go_wp2_with (go_at_call 11; refine (a_check_v HV.out _ (h.alloc _)).mono ?_; rintro e w1 ⟨rfl, hb1⟩)
    go_ret
    exact ⟨rfl, (below_new _ _).trans (hb1.mono (by simp))⟩
theorem a_skips_v (op a b c i v : Int) (y : Bool) (hy : skipsB op a b c i = y) (hv : skipsV op a b c i = v) (w : World) (h : Env w) : Calls Tryd.prog 9 #[ins op a b c i] w fun e w' => e = .returned (.tuple #[.int .i64 v, .bool y]) ∧ Below w.heap.size w w' := by
  show Calls _ _ #[.agg _] _ _
  unfold skipsV at hv
  rw [hy] at hv
  unfold skipsB at hy
  rcases chk_cases op a b c i with ⟨h0, h1, h2⟩ | h0 | h0
  · rw [decide_eq_true h0, Bool.true_and] at hy
    have HV := Lib.hid h0
    clear h0
    by_cases ho : op = 4 ∨ op = 5 ∨ op = 6
    · have e : (decide (op = 4) || (decide (op = 5) || decide (op = 6))) = true := by rcases ho with rfl | rfl | rfl <;> rfl
      rw [e] at hy
      subst hy
      rw [if_pos rfl] at hv
      subst hv
      clear e h1 h2
      rcases ho with rfl | rfl | rfl
      all_goals
        go_enter Tryd.func9, Tryd.ntmps9
        go_wp2_with fail
        refine (a_check_v HV.out _ (h.alloc _)).mono ?_
        rintro e w1 ⟨rfl, hb1⟩
        have hm1 := (Mem.new w 23 (boxed _ a b c i)).below hb1 (by simp)
        have hop := hm1.cell 0
        have hii := hm1.cell 4
        simp [boxed] at hop hii
        have hbw := (below_new w (.cells (boxed _ a b c i) 23)).trans (hb1.mono (by simp))
        clear hb1 h hm1
        go_wp2
        go_ret2
        exact ⟨rfl, hbw⟩
    · have e : (decide (op = 4) || (decide (op = 5) || decide (op = 6))) = false := by
        rw [decide_eq_false (by omega : ¬ op = 4), decide_eq_false (by omega : ¬ op = 5), decide_eq_false (by omega : ¬ op = 6)]; rfl
      rw [e] at hy
      subst hy
      rw [if_neg (by simp)] at hv
      subst hv
      have q4 : (op == 4) = false := by rw [beq_eq_false_iff_ne]; omega
      have q5 : (op == 5) = false := by rw [beq_eq_false_iff_ne]; omega
      have q6 : (op == 6) = false := by rw [beq_eq_false_iff_ne]; omega
      clear e ho
      go_enter Tryd.func9, Tryd.ntmps9
      go_wp2_with fail
      refine (a_check_v HV.out _ (h.alloc _)).mono ?_
      rintro e w1 ⟨rfl, hb1⟩
      have hm1 := (Mem.new w 23 (boxed op a b c i)).below hb1 (by simp)
      have hop : w1.cell? ⟨w.heap.size, 0, none⟩ = some (.int .i64 op) := hm1.cell 0
      have hbw := (below_new w (.cells (boxed op a b c i) 23)).trans (hb1.mono (by simp))
      clear hb1 h hm1
      go_wp2
      go_ret2
      exact ⟨rfl, hbw⟩
  all_goals
    rw [decide_eq_false (by omega : ¬ chk op a b c i = 0), Bool.false_and] at hy
    subst hy
    rw [if_neg (by simp)] at hv
    subst hv
    have HV := Lib.hid h0
    clear h0
    go_enter Tryd.func9, Tryd.ntmps9
    go_wp2_with (go_at_call 11; refine (a_check_v HV.out _ (h.alloc _)).mono ?_; rintro e w1 ⟨rfl, hb1⟩)
    go_ret2
    exact ⟨rfl, (below_new _ _).trans (hb1.mono (by simp))⟩
end Go.Proofs.YteccmhkjbidkpaaDoor.IsaB
