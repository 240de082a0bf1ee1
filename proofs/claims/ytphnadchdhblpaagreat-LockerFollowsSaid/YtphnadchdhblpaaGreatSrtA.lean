/-
  Contracts of slices.Clone of integers and words, slices.Sort and Compact over a row of the call's own, locker.Sorted.
-/
import Derived.Test.YtphnadchdhblpaaGreatObjA
import Derived.Test.YtphnadchdhblpaaGreatLkP
import Derived.Test.YtphnadchdhblpaaGreatShelf
import Derived.Sort.OwnSortedInts
import Derived.Lib.OwnBridge
namespace Go.Proofs.YtphnadchdhblpaaGreat.SrtA
open Go.ChangeShapes Go.WideShapes Go.ChangeAt Go.RowKit
open PlainT BlkW LayS CelS CelM CelP CelV CelN LabD RsA ObjA LkP
set_option linter.unusedVariables false
set_option maxHeartbeats 1000000
set_option maxRecDepth 100000

theorem a_sort {w : World} {base : Nat} {v : Value} {n : Nat} {zs : List Int} (hn62 : n < 4611686018427387904) (h : w.ownsRow base 3 1 v n (zs.map (Value.int .i64))) :
    Calls Tryz.prog 50 #[v] w fun e w' => e = .returned (.tuple #[]) ∧ w'.ownsRow base 3 1 v n ((zs.mergeSort fun x y => decide (x ≤ y)).map (Value.int .i64)) ∧ w.grownBy w' v.ownBlock := by
  by_cases hv : v = .slice none 0 0
  · subst hv
    rcases h.2 with ⟨_, hn⟩ | ⟨g, cap, cur, e0, _⟩
    · subst hn
      have hz : zs = [] := by simpa using h.1
      subst hz
      refine (Tryz.slices_Sort_int_none none 0 w).mono ?_
      rintro e w' ⟨rfl, rfl⟩
      exact ⟨rfl, by simpa using h, ⟨rfl, rfl, rfl, Nat.le_refl _, fun _ _ _ => rfl⟩⟩
    · cases e0
  · obtain ⟨g, cap, rfl, hb, hlt, hn, hm, hl, hH⟩ := Lib.holds_of_ownsRow h hv
    subst hl
    rcases h.2 with ⟨e0, _⟩ | ⟨g', cap', cur, e0, hbg, hg, hn', hm', hs, ht⟩
    · cases e0
    · injection e0 with e1 _ e3
      injection e1 with e1
      injection e1 with e1
      subst e1; subst e3
      refine (Tryz.slices_Sort_int g 0 cap zs w hH hlt hn62).mono ?_
      rintro e w' ⟨rfl, q, os, rfl⟩
      exact ⟨rfl, Go.ownsRow_sortedI (List.length_mergeSort zs) hb hg hn hm hs, Go.grownBy_sortedI _⟩
theorem grownBy_putRow {w : World} {g n : Nat} (d : Array Int) : w.grownBy (Sort.putRow (Value.int .i64) (Sort.ahead w n) g 0 d) (some g) := by
  refine ⟨rfl, rfl, rfl, by simp [Sort.ahead], fun k hk hne => ?_⟩
  have : g ≠ k := fun e => hne (by rw [e])
  simp [Sort.putRow, Sort.mapBlock, Sort.ahead, Array.getElem?_modify, this]
theorem a_compact {w : World} {base : Nat} {v : Value} {n : Nat} {zs : List Int} (h : w.ownsRow base 3 1 v n (zs.map (Value.int .i64))) :
    Calls Tryz.prog 51 #[v] w fun e w' => ∃ v', e = .returned v' ∧ w'.ownsRow base 3 1 v' (Lib.compact zs).length ((Lib.compact zs).map (Value.int .i64)) ∧ w.grownBy w' v.ownBlock := by
  by_cases hv : v = .slice none 0 0
  · subst hv
    rcases h.2 with ⟨_, hn⟩ | ⟨g, cap, cur, e0, _⟩
    · subst hn
      have hz : zs = [] := by simpa using h.1
      subst hz
      refine (Tryz.slices_Compact_int_empty none 0 w).mono ?_
      rintro e w' ⟨rfl, rfl⟩
      exact ⟨_, rfl, h, ⟨rfl, rfl, rfl, Nat.le_refl _, fun _ _ _ => rfl⟩⟩
    · cases e0
  · obtain ⟨g, cap, rfl, hb, hlt, hn, hm, hl, hH⟩ := Lib.holds_of_ownsRow h hv
    subst hl
    refine (Tryz.slices_Compact_int g 0 cap zs w hH (by unfold maxLen at hm; omega) hn).mono ?_
    rintro e w' ⟨rfl, q, rfl⟩
    have hle : (Lib.compact zs).length ≤ zs.length := by
      unfold Lib.compact Lib.compactUpTo
      rw [List.length_map]
      exact Nat.le_trans (List.length_filter_le _ _) (by simp)
    have := Lib.ownsRow_putRow (q := q) (k := (Lib.compact zs).length) (ys := Lib.compact zs ++ List.replicate (zs.length - (Lib.compact zs).length) 0) h (by rw [List.length_append, List.length_replicate]; omega) hle
    rw [List.take_left] at this
    exact ⟨_, rfl, this, grownBy_putRow _⟩
/-- append of a row that reads as xs to an empty one that is not nil. -/
theorem run_cloneK {k : IntKind} {T ts : TypeId} (hu : Tryz.prog.underlying ts = some (.slice T)) (hinf : ∃ i, Tryz.prog.info? T = some i ∧ i.zero = some (.int k 0) ∧ i.size = 1 ∧ i.bytes = 8) {w : World} {a : Addr} {n cap : Nat} {xs : List Int} (hs : RdS k w (.slice (some a) n cap) xs) (hl : xs.length ≤ 100000) :
    ∃ A c w1, (Builtin.append_ #[ts, ts] ts #[.slice (some ⟨w.heap.size, 0, none⟩) 0 0, .slice (some a) n cap]).run Tryz.prog (w.alloc (.cells #[] T)) = .ok (.slice A n c) w1 ∧ w1.ownsRow w.heap.size T 1 (.slice A n c) xs.length (xs.map (Value.int k)) ∧ n = xs.length ∧ Below w.heap.size w w1 := by
  obtain ⟨i0, hi, hz0, hz1, hz2⟩ := hinf
  obtain ⟨p, cap', e, h1, h2, hc⟩ := hs
  injection e with e1 e2 e3
  subst e1 e2 e3
  have hown : (w.alloc (.cells #[] T)).ownsRow w.heap.size T 1 (.slice (some ⟨w.heap.size, 0, none⟩) 0 0) 0 [] := World.ownsRow_made w #[] 0 (Nat.le_refl _) (by unfold maxLen; omega) rfl
  obtain ⟨v', w', hrun, hown', hgr, _⟩ := run_append_own (P := Tryz.prog) (w := w.alloc (.cells #[] T)) w.heap.size ts ts T i0 _ 1 8 hu hi hz0 hz1 hz2 rfl (by decide) _ 0 [] hown a xs.length cap (xs.map (Value.int k)) (by simp) (by
      intro j u hj
      rw [List.getElem?_map] at hj
      cases hx : xs[j]? with
      | none => rw [hx] at hj; cases hj
      | some y =>
        rw [hx] at hj
        injection hj with hj
        obtain ⟨g, o, e, hy⟩ := hc j y hx
        injection e with e
        subst e
        rw [← hj, add_off]
        have hg : g < w.heap.size := World.block_lt_of_cell? _ _ hy
        rw [← hy]
        exact World.cell?_of_block (BlkW.heap_alloc_old w _ g hg)) (by
      intro u hu
      obtain ⟨y, _, rfl⟩ := List.mem_map.1 hu
      rfl) (by unfold maxLen; omega) (by omega) (by rw [size_new]; omega)
  rw [Nat.zero_add] at hown'
  obtain ⟨A, c, rfl, _⟩ := own_slice hown'
  exact ⟨A, c, w', hrun, by simpa using hown', rfl, ((Below.refl _ w).alloc (Nat.le_refl _) _).grown hgr (by rw [size_new]; omega) (fun k hk => by simp [Value.ownBlock] at hk; omega)⟩
theorem info_i : ∃ i, Tryz.prog.info? TI = some i ∧ i.zero = some (.int .i64 0) ∧ i.size = 1 ∧ i.bytes = 8 := ⟨_, rfl, by kernel_rfl, by kernel_rfl, by kernel_rfl⟩
/-- slices.Clone of integers. -/
theorem c_int (w : World) (v : Value) (xs : List Int) (hs : RdS .i64 w v xs) (hl : xs.length ≤ 100000) : Calls Tryz.prog 47 #[v] w fun e w' => ∃ A c, e = .returned (.slice A xs.length c) ∧ w'.ownsRow w.heap.size TI 1 (.slice A xs.length c) xs.length (xs.map (Value.int .i64)) ∧ Below w.heap.size w w' := by
  have hs' := hs
  obtain ⟨p, cap, rfl, h1, h2, hc⟩ := hs'
  cases p with
  | none =>
    have hx : xs = [] := by
      cases xs with
      | nil => rfl
      | cons x xs => obtain ⟨g, o, e, _⟩ := hc 0 x rfl; cases e
    subst hx
    clear hc hs h1 h2 hl
    have hnil : ∀ w : World, (binOp BinOp.eql 23 (.slice none 0 cap) (.slice none 0 0)).run Tryz.prog w = .ok (.bool true) w := fun w => by kernel_rfl
    go_enter Tryz.func47, Tryz.ntmps47
    go_wp2
    go_ret
    exact ⟨none, 0, rfl, World.ownsRow_nil _ _ _ _, Below.refl _ _⟩
  | some a =>
    obtain ⟨A, c, w1, hrun, hown, _, hbel⟩ := run_cloneK Tryz.underlying23 info_i hs hl
    have HO := Lib.hid hown
    have HB := Lib.hid hbel
    clear hown hbel hc hs h1 h2
    have hnil : ∀ w : World, (binOp BinOp.eql 23 (.slice (some a) xs.length cap) (.slice none 0 0)).run Tryz.prog w = .ok (.bool false) w := fun w => by kernel_rfl
    go_enter Tryz.func47, Tryz.ntmps47
    go_wp2_with (at_builtin; refine wpList_append_run rfl _ _ _ rfl hrun (by rfl) (by rfl) ?_)
    go_ret
    exact ⟨A, c, rfl, HO.out, HB.out⟩
/-- slices.Clone of words. -/
theorem c_word (w : World) (v : Value) (xs : List Int) (hs : RdS .u64 w v xs) (hl : xs.length ≤ 100000) : Calls Tryz.prog 37 #[v] w fun e w' => ∃ A c, e = .returned (.slice A xs.length c) ∧ w'.ownsRow w.heap.size TU 1 (.slice A xs.length c) xs.length (xs.map (Value.int .u64)) ∧ Below w.heap.size w w' := by
  have hs' := hs
  obtain ⟨p, cap, rfl, h1, h2, hc⟩ := hs'
  cases p with
  | none =>
    have hx : xs = [] := by
      cases xs with
      | nil => rfl
      | cons x xs => obtain ⟨g, o, e, _⟩ := hc 0 x rfl; cases e
    subst hx
    clear hc hs h1 h2 hl
    have hnil : ∀ w : World, (binOp BinOp.eql TR (.slice none 0 cap) (.slice none 0 0)).run Tryz.prog w = .ok (.bool true) w := fun w => by kernel_rfl
    go_enter Tryz.func37, Tryz.ntmps37
    go_wp2
    go_ret
    exact ⟨none, 0, rfl, World.ownsRow_nil _ _ _ _, Below.refl _ _⟩
  | some a =>
    obtain ⟨A, c, w1, hrun, hown, _, hbel⟩ := run_cloneK (ts := TR) Tryz.underlying54 (info_parts info_u) hs hl
    have HO := Lib.hid hown
    have HB := Lib.hid hbel
    clear hown hbel hc hs h1 h2
    have hnil : ∀ w : World, (binOp BinOp.eql TR (.slice (some a) xs.length cap) (.slice none 0 0)).run Tryz.prog w = .ok (.bool false) w := fun w => by kernel_rfl
    go_enter Tryz.func37, Tryz.ntmps37
    go_wp2_with (at_builtin; refine wpList_append_run rfl _ _ _ rfl hrun (by rfl) (by rfl) ?_)
    go_ret
    exact ⟨A, c, rfl, HO.out, HB.out⟩
/-- locker.Sorted. -/
theorem k_sorted (w : World) (v : Value) (xs : List Int) (hs : RdS .i64 w v xs) (hl : xs.length ≤ 100000) : Calls Tryz.prog 29 #[v] w fun e w' => ∃ v', e = .returned v' ∧ w'.ownsRow w.heap.size TI 1 v' (srt xs).length ((srt xs).map (Value.int .i64)) ∧ Below w.heap.size w w' := by
  have hc := c_int w v xs hs hl
  clear hs
  go_enter Tryz.func29, Tryz.ntmps29
  go_upto_region 2 with (go_at_call 47; refine hc.mono ?_; rintro e w1 ⟨A, c, rfl, hown, hb⟩)
  have hs := a_sort (by omega) hown
  have HB := Lib.hid hb
  have hr := own_row hown
  clear hc hown hb
  go_upto_region 3 with (go_at_call 50; refine hs.mono ?_; rintro e w2 ⟨rfl, hown2, hg2⟩)
  have hk := a_compact hown2
  have HB2 := Lib.hid (HB.out.grown hg2 HB.out.size (fun k hk => (hr k hk).1))
  clear hs hr HB hg2
  have hr := own_row hown2
  clear hown2
  go_wp2_with (go_at_call 51; refine hk.mono ?_; rintro e w3 ⟨v3, rfl, hown3, hg3⟩)
  have HO := Lib.hid hown3
  have HB3 := Lib.hid (HB2.out.grown hg3 HB2.out.size (fun k hk => (hr k hk).1))
  clear hown3 hg3 hr hk
  go_ret
  refine ⟨v3, rfl, ?_, HB3.out⟩
  have := HO.out
  rw [compact_srt] at this
  exact this
end Go.Proofs.YtphnadchdhblpaaGreat.SrtA
