/-
  Contracts of package cells: perform with each of its four changes.
-/
import Derived.Test.YtpjbmbipkmpkhaaLocks
import Derived.Test.YtpjbmbipkmpkhaaCelM
import Derived.Laws.ResultCell
import Derived.Laws.Rows
import Derived.Defers
import Derived.Deep.Cut
namespace Go.Proofs.Ytpjbmbipkmpkhaa.CelP
open Go.ChangeShapes Go.WideShapes Go.ChangeAt Go.RowKit Go.MuLone
open PlainT BlkW CelS CelM
set_option linter.unusedVariables false
set_option maxHeartbeats 1000000

theorem f_load (x : Int) (w : World) : Calls Try.prog 105 #[.int .u64 x] w fun e w' => e = .returned (.tuple #[.int .u64 x, .bool true]) ∧ w = w' := by
  go_enter Try.func105, Try.ntmps105
  go_wp2
  go_ret2
  exact ⟨rfl, rfl⟩
theorem f_store (x v : Int) (a : Addr) (w : World) (ha : w.cell? a = some (.int .u64 v)) : Calls Try.prog 108 #[.int .u64 x, .pointer (some a)] w fun e w' => e = .returned (.tuple #[.int .u64 v, .bool true]) ∧ w = w' := by
  go_enter Try.func108, Try.ntmps108
  go_wp2
  go_ret2
  exact ⟨rfl, rfl⟩
theorem f_add (x v : Int) (a : Addr) (w : World) (ha : w.cell? a = some (.int .u64 v)) : Calls Try.prog 103 #[.int .u64 x, .pointer (some a)] w fun e w' => e = .returned (.tuple #[.int .u64 (IntKind.u64.wrap (x + v)), .bool true]) ∧ w = w' := by
  go_enter Try.func103, Try.ntmps103
  go_wp2
  go_ret2
  exact ⟨rfl, rfl⟩
theorem f_add2 (x v s : Int) (hs : IntKind.u64.wrap (x + v) = s) (a : Addr) (w : World) (ha : w.cell? a = some (.int .u64 v)) : Calls Try.prog 103 #[.int .u64 x, .pointer (some a)] w fun e w' => e = .returned (.tuple #[.int .u64 s, .bool true]) ∧ w = w' := by
  rw [← hs]
  exact f_add x v a w ha
theorem f_swap (x o v : Int) (a c : Addr) (w : World) (ha : w.cell? a = some (.int .u64 o)) (hc : w.cell? c = some (.int .u64 v)) : Calls Try.prog 104 #[.int .u64 x, .pointer (some a), .pointer (some c)] w fun e w' => e = .returned (.tuple #[.int .u64 (if x = o then v else x), .bool (decide (x = o))]) ∧ w = w' := by
  by_cases h : x = o
  · have hb : (x != o) = false := by simp [h]
    rw [if_pos h, decide_eq_true h]
    clear h
    go_enter Try.func104, Try.ntmps104
    go_wp2
    go_ret2
    exact ⟨rfl, rfl⟩
  · have hb : (x != o) = true := by simp [h]
    rw [if_neg h, decide_eq_false h]
    clear h
    go_enter Try.func104, Try.ntmps104
    go_wp2
    go_ret2
    exact ⟨rfl, rfl⟩
theorem f_swap2 (x o v p : Int) (d : Bool) (hp : p = if x = o then v else x) (hd : d = decide (x = o)) (a c : Addr) (w : World) (ha : w.cell? a = some (.int .u64 o)) (hc : w.cell? c = some (.int .u64 v)) : Calls Try.prog 104 #[.int .u64 x, .pointer (some a), .pointer (some c)] w fun e w' => e = .returned (.tuple #[.int .u64 p, .bool d]) ∧ w = w' := by
  rw [hp, hd]
  exact f_swap x o v a c w ha hc
/-- perform's answer: the access and its error; the cells. -/
def Does (lo hi : Nat) (w : World) (b : Nat) (A' : Int → List Int) (acc : Value) (err : Int) (e : Ending) (w' : World) : Prop :=
  e = .returned (.tuple #[acc, .int .i64 err]) ∧ Is lo hi w' b A' ∧ Stay lo hi w w'
set_option maxRecDepth 100000 in
theorem p_load (lo hi : Nat) (w : World) (b bm : Nat) (g : Int → Nat) (A : Int → List Int) (h : Cells lo hi w b A bm g) (cell : Int) (hk : 1 ≤ cell ∧ cell ≤ 8) (i : Nat) (hlt : i < (A cell).length) (x : Int) (hx : (A cell).getD i 0 = x) :
    Calls Try.prog 102 #[.pointer (some ⟨b, 0, none⟩), .int .i64 1, .int .i64 cell, .int .i64 i, .func (.func 105) #[] #[]] w fun e w' => Does lo hi w b (upd A cell i x) (accV 1 cell i x x true) 0 e w' := by
  have hlen := h.len cell
  have H0 := h.alloc (.cells #[.int .i64 0, .int .i64 0, .int .i64 0, .int .u64 0, .int .u64 0, .bool false] 62)
  have H1 := H0.take
  have k0 := H0.box.cell 0
  have k1 := H0.box.frozen 0
  have c2 := H1.box.cell 2
  have hlook := H1.look cell
  rw [if_pos hk] at hlook
  have hrow := Row.cell (H1.row cell hk) i hlt
  have hrf := (H1.row cell hk).frozen i
  rw [hx] at hrow
  obtain ⟨n, hn⟩ : ∃ n, (A cell).length = n := ⟨_, rfl⟩
  rw [hn] at hlook hlt hlen
  go_enter_defers Try.func102, Try.ntmps102
  have hz : w.heap.size ≠ b := by have := H0.bIn; have := h.top; omega
  have hz2 : w.heap.size ≠ g cell := by have := H0.gIn cell hk; have := h.top; omega
  have M0 := ((Mem.new w 62 #[.int .i64 0, .int .i64 0, .int .i64 0, .int .u64 0, .int .u64 0, .bool false]).far (a := ⟨b, 0, none⟩) hz (.int .i32 1))
  have M1 := M0.far (a := ⟨g cell, i, none⟩) hz2 (.int .u64 x)
  have S1 : Stay lo hi w (((w.alloc (.cells #[.int .i64 0, .int .i64 0, .int .i64 0, .int .u64 0, .int .u64 0, .bool false] 62)).setCell ⟨b, 0, none⟩ (.int .i32 1)).setCell ⟨g cell, i, none⟩ (.int .u64 x)) :=
    (((Stay.refl lo hi w).alloc _).set_ _ (.inl h.bIn) _).set_ _ (.inl (h.gIn cell hk)) _
  have H2 := H1.put hk i x
  have hlt0 : ¬ (n ≤ i) := by omega
  have hlti : (i : Int) < n := by omega
  go_upto_region 10 with (first
    | (go_at_call 77; refine (lock_free Locks.lib ⟨b, 0, none⟩ _ k0 k1).mono ?_; rintro e w1 ⟨rfl, rfl⟩)
    | (go_at_call 105; refine (f_load _ _).mono ?_; rintro e w2 ⟨rfl, rfl⟩))
  go_upto_region 11 with (fail)
  obtain ⟨W, hW⟩ : ∃ W, ((w.alloc (.cells #[.int .i64 0, .int .i64 0, .int .i64 0, .int .u64 0, .int .u64 0, .bool false] 62)).setCell ⟨b, 0, none⟩ (.int .i32 1)).setCell ⟨g cell, i, none⟩ (.int .u64 x) = W := ⟨_, rfl⟩
  rw [hW] at M1 S1 H2 ⊢
  clear hW M0 H0 H1 k0 k1 c2 hlook hrow hrf
  have d0 := M1.cell 0
  have d1 := M1.cell 1
  have d2 := M1.cell 2
  have d3 := M1.cell 3
  have d4 := M1.cell 4
  have d5 := M1.cell 5
  have df := M1.frozen
  go_wp2
  have M2 : Mem ((((((W.setCell ⟨w.heap.size, 0, none⟩ (.int .i64 1)).setCell ⟨w.heap.size, 1, none⟩ (.int .i64 cell)).setCell ⟨w.heap.size, 2, none⟩ (.int .i64 i)).setCell ⟨w.heap.size, 3, none⟩ (.int .u64 x)).setCell ⟨w.heap.size, 4, none⟩ (.int .u64 x)).setCell ⟨w.heap.size, 5, none⟩ (.bool true)) w.heap.size 62 #[.int .i64 1, .int .i64 cell, .int .i64 i, .int .u64 x, .int .u64 x, .bool true] :=
    ((((((M1.set_ 0 _).set_ 1 _).set_ 2 _).set_ 3 _).set_ 4 _).set_ 5 _)
  have H3 := ((((((H2.far (a := ⟨w.heap.size, 0, none⟩) h.top (.int .i64 1)).far (a := ⟨w.heap.size, 1, none⟩) h.top (.int .i64 cell)).far (a := ⟨w.heap.size, 2, none⟩) h.top (.int .i64 i)).far (a := ⟨w.heap.size, 3, none⟩) h.top (.int .u64 x)).far (a := ⟨w.heap.size, 4, none⟩) h.top (.int .u64 x)).far (a := ⟨w.heap.size, 5, none⟩) h.top (.bool true))
  have S2 := ((((((S1.set_ ⟨w.heap.size, 0, none⟩ (.inr (Nat.le_refl _)) (.int .i64 1)).set_ ⟨w.heap.size, 1, none⟩ (.inr (Nat.le_refl _)) (.int .i64 cell)).set_ ⟨w.heap.size, 2, none⟩ (.inr (Nat.le_refl _)) (.int .i64 i)).set_ ⟨w.heap.size, 3, none⟩ (.inr (Nat.le_refl _)) (.int .u64 x)).set_ ⟨w.heap.size, 4, none⟩ (.inr (Nat.le_refl _)) (.int .u64 x)).set_ ⟨w.heap.size, 5, none⟩ (.inr (Nat.le_refl _)) (.bool true))
  obtain ⟨V, hV⟩ : ∃ V, ((((((W.setCell ⟨w.heap.size, 0, none⟩ (.int .i64 1)).setCell ⟨w.heap.size, 1, none⟩ (.int .i64 cell)).setCell ⟨w.heap.size, 2, none⟩ (.int .i64 i)).setCell ⟨w.heap.size, 3, none⟩ (.int .u64 x)).setCell ⟨w.heap.size, 4, none⟩ (.int .u64 x)).setCell ⟨w.heap.size, 5, none⟩ (.bool true)) = V := ⟨_, rfl⟩
  rw [hV] at M2 H3 S2 ⊢
  refine leaves_cons (f := 78) (args := #[.pointer (some ⟨b, 0, none⟩)]) (by simp) (by simp [go_sem]) ?_
  refine (unlock_deferred Locks.lib ⟨b, 0, none⟩ .returning V (H3.box.cell 0) (H3.box.frozen 0)).mono ?_
  rintro e u' w'' ⟨rfl, rfl, rfl⟩
  have M3 := M2.far (a := ⟨b, 0, none⟩) hz (.int .i32 0)
  have e0 := M3.cell 0
  have e1 := M3.cell 1
  have e2 := M3.cell 2
  have e3 := M3.cell 3
  have e4 := M3.cell 4
  have e5 := M3.cell 5
  refine ⟨_, (results_cell_tmp rfl _ _ _).trans (by simp [go_sem, e0, e1, e2, e3, e4, e5]), rfl, ⟨bm, g, H3.give⟩, S2.set_ _ (.inl h.bIn) _⟩
set_option maxRecDepth 100000 in
theorem p_store (lo hi : Nat) (w : World) (b bm : Nat) (g : Int → Nat) (A : Int → List Int) (h : Cells lo hi w b A bm g) (cell : Int) (hk : 1 ≤ cell ∧ cell ≤ 8) (i : Nat) (hlt : i < (A cell).length) (x : Int) (hx : (A cell).getD i 0 = x) (v : Int) (a : Addr) (ha : w.cell? a = some (.int .u64 v)) (hi2 : hi ≤ a.block ∧ a.block < w.heap.size) :
    Calls Try.prog 102 #[.pointer (some ⟨b, 0, none⟩), .int .i64 2, .int .i64 cell, .int .i64 i, .func (.func 108) #[] #[.pointer (some a)]] w fun e w' => Does lo hi w b (upd A cell i v) (accV 2 cell i x v true) 0 e w' := by
  have hlen := h.len cell
  have H0 := h.alloc (.cells #[.int .i64 0, .int .i64 0, .int .i64 0, .int .u64 0, .int .u64 0, .bool false] 62)
  have H1 := H0.take
  have k0 := H0.box.cell 0
  have k1 := H0.box.frozen 0
  have c2 := H1.box.cell 2
  have hlook := H1.look cell
  rw [if_pos hk] at hlook
  have hrow := Row.cell (H1.row cell hk) i hlt
  have hrf := (H1.row cell hk).frozen i
  have Ca : ((w.alloc (.cells #[.int .i64 0, .int .i64 0, .int .i64 0, .int .u64 0, .int .u64 0, .bool false] 62)).setCell ⟨b, 0, none⟩ (.int .i32 1)).cell? a = some (.int .u64 v) :=
    (World.cell?_of_block ((Below.heap_setCell _ _ _ a.block (by have := h.bIn; show a.block ≠ b; omega)).trans (BlkW.heap_alloc_old w _ a.block (by have := hi2; omega)))).trans ha
  rw [hx] at hrow
  obtain ⟨n, hn⟩ : ∃ n, (A cell).length = n := ⟨_, rfl⟩
  rw [hn] at hlook hlt hlen
  go_enter_defers Try.func102, Try.ntmps102
  have hz : w.heap.size ≠ b := by have := H0.bIn; have := h.top; omega
  have hz2 : w.heap.size ≠ g cell := by have := H0.gIn cell hk; have := h.top; omega
  have M0 := ((Mem.new w 62 #[.int .i64 0, .int .i64 0, .int .i64 0, .int .u64 0, .int .u64 0, .bool false]).far (a := ⟨b, 0, none⟩) hz (.int .i32 1))
  have M1 := M0.far (a := ⟨g cell, i, none⟩) hz2 (.int .u64 v)
  have S1 : Stay lo hi w (((w.alloc (.cells #[.int .i64 0, .int .i64 0, .int .i64 0, .int .u64 0, .int .u64 0, .bool false] 62)).setCell ⟨b, 0, none⟩ (.int .i32 1)).setCell ⟨g cell, i, none⟩ (.int .u64 v)) :=
    (((Stay.refl lo hi w).alloc _).set_ _ (.inl h.bIn) _).set_ _ (.inl (h.gIn cell hk)) _
  have H2 := H1.put hk i v
  have hlt0 : ¬ (n ≤ i) := by omega
  have hlti : (i : Int) < n := by omega
  go_upto_region 10 with (first
    | (go_at_call 77; refine (lock_free Locks.lib ⟨b, 0, none⟩ _ k0 k1).mono ?_; rintro e w1 ⟨rfl, rfl⟩)
    | (go_at_call 108; refine (f_store _ v a _ Ca).mono ?_; rintro e w2 ⟨rfl, rfl⟩))
  go_upto_region 11 with (fail)
  obtain ⟨W, hW⟩ : ∃ W, ((w.alloc (.cells #[.int .i64 0, .int .i64 0, .int .i64 0, .int .u64 0, .int .u64 0, .bool false] 62)).setCell ⟨b, 0, none⟩ (.int .i32 1)).setCell ⟨g cell, i, none⟩ (.int .u64 v) = W := ⟨_, rfl⟩
  rw [hW] at M1 S1 H2 ⊢
  clear hW M0 H0 H1 k0 k1 c2 hlook hrow hrf
  have d0 := M1.cell 0
  have d1 := M1.cell 1
  have d2 := M1.cell 2
  have d3 := M1.cell 3
  have d4 := M1.cell 4
  have d5 := M1.cell 5
  have df := M1.frozen
  go_wp2
  have M2 : Mem ((((((W.setCell ⟨w.heap.size, 0, none⟩ (.int .i64 2)).setCell ⟨w.heap.size, 1, none⟩ (.int .i64 cell)).setCell ⟨w.heap.size, 2, none⟩ (.int .i64 i)).setCell ⟨w.heap.size, 3, none⟩ (.int .u64 x)).setCell ⟨w.heap.size, 4, none⟩ (.int .u64 v)).setCell ⟨w.heap.size, 5, none⟩ (.bool true)) w.heap.size 62 #[.int .i64 2, .int .i64 cell, .int .i64 i, .int .u64 x, .int .u64 v, .bool true] :=
    ((((((M1.set_ 0 _).set_ 1 _).set_ 2 _).set_ 3 _).set_ 4 _).set_ 5 _)
  have H3 := ((((((H2.far (a := ⟨w.heap.size, 0, none⟩) h.top (.int .i64 2)).far (a := ⟨w.heap.size, 1, none⟩) h.top (.int .i64 cell)).far (a := ⟨w.heap.size, 2, none⟩) h.top (.int .i64 i)).far (a := ⟨w.heap.size, 3, none⟩) h.top (.int .u64 x)).far (a := ⟨w.heap.size, 4, none⟩) h.top (.int .u64 v)).far (a := ⟨w.heap.size, 5, none⟩) h.top (.bool true))
  have S2 := ((((((S1.set_ ⟨w.heap.size, 0, none⟩ (.inr (Nat.le_refl _)) (.int .i64 2)).set_ ⟨w.heap.size, 1, none⟩ (.inr (Nat.le_refl _)) (.int .i64 cell)).set_ ⟨w.heap.size, 2, none⟩ (.inr (Nat.le_refl _)) (.int .i64 i)).set_ ⟨w.heap.size, 3, none⟩ (.inr (Nat.le_refl _)) (.int .u64 x)).set_ ⟨w.heap.size, 4, none⟩ (.inr (Nat.le_refl _)) (.int .u64 v)).set_ ⟨w.heap.size, 5, none⟩ (.inr (Nat.le_refl _)) (.bool true))
  obtain ⟨V, hV⟩ : ∃ V, ((((((W.setCell ⟨w.heap.size, 0, none⟩ (.int .i64 2)).setCell ⟨w.heap.size, 1, none⟩ (.int .i64 cell)).setCell ⟨w.heap.size, 2, none⟩ (.int .i64 i)).setCell ⟨w.heap.size, 3, none⟩ (.int .u64 x)).setCell ⟨w.heap.size, 4, none⟩ (.int .u64 v)).setCell ⟨w.heap.size, 5, none⟩ (.bool true)) = V := ⟨_, rfl⟩
  rw [hV] at M2 H3 S2 ⊢
  refine leaves_cons (f := 78) (args := #[.pointer (some ⟨b, 0, none⟩)]) (by simp) (by simp [go_sem]) ?_
  refine (unlock_deferred Locks.lib ⟨b, 0, none⟩ .returning V (H3.box.cell 0) (H3.box.frozen 0)).mono ?_
  rintro e u' w'' ⟨rfl, rfl, rfl⟩
  have M3 := M2.far (a := ⟨b, 0, none⟩) hz (.int .i32 0)
  have e0 := M3.cell 0
  have e1 := M3.cell 1
  have e2 := M3.cell 2
  have e3 := M3.cell 3
  have e4 := M3.cell 4
  have e5 := M3.cell 5
  refine ⟨_, (results_cell_tmp rfl _ _ _).trans (by simp [go_sem, e0, e1, e2, e3, e4, e5]), rfl, ⟨bm, g, H3.give⟩, S2.set_ _ (.inl h.bIn) _⟩
set_option maxRecDepth 100000 in
theorem p_add (lo hi : Nat) (w : World) (b bm : Nat) (g : Int → Nat) (A : Int → List Int) (h : Cells lo hi w b A bm g) (cell : Int) (hk : 1 ≤ cell ∧ cell ≤ 8) (i : Nat) (hlt : i < (A cell).length) (x : Int) (hx : (A cell).getD i 0 = x) (v s : Int) (hs : IntKind.u64.wrap (x + v) = s) (a : Addr) (ha : w.cell? a = some (.int .u64 v)) (hi2 : hi ≤ a.block ∧ a.block < w.heap.size) :
    Calls Try.prog 102 #[.pointer (some ⟨b, 0, none⟩), .int .i64 4, .int .i64 cell, .int .i64 i, .func (.func 103) #[] #[.pointer (some a)]] w fun e w' => Does lo hi w b (upd A cell i s) (accV 4 cell i x s true) 0 e w' := by
  have hlen := h.len cell
  have H0 := h.alloc (.cells #[.int .i64 0, .int .i64 0, .int .i64 0, .int .u64 0, .int .u64 0, .bool false] 62)
  have H1 := H0.take
  have k0 := H0.box.cell 0
  have k1 := H0.box.frozen 0
  have c2 := H1.box.cell 2
  have hlook := H1.look cell
  rw [if_pos hk] at hlook
  have hrow := Row.cell (H1.row cell hk) i hlt
  have hrf := (H1.row cell hk).frozen i
  have Ca : ((w.alloc (.cells #[.int .i64 0, .int .i64 0, .int .i64 0, .int .u64 0, .int .u64 0, .bool false] 62)).setCell ⟨b, 0, none⟩ (.int .i32 1)).cell? a = some (.int .u64 v) :=
    (World.cell?_of_block ((Below.heap_setCell _ _ _ a.block (by have := h.bIn; show a.block ≠ b; omega)).trans (BlkW.heap_alloc_old w _ a.block (by have := hi2; omega)))).trans ha
  rw [hx] at hrow
  obtain ⟨n, hn⟩ : ∃ n, (A cell).length = n := ⟨_, rfl⟩
  rw [hn] at hlook hlt hlen
  go_enter_defers Try.func102, Try.ntmps102
  have hz : w.heap.size ≠ b := by have := H0.bIn; have := h.top; omega
  have hz2 : w.heap.size ≠ g cell := by have := H0.gIn cell hk; have := h.top; omega
  have M0 := ((Mem.new w 62 #[.int .i64 0, .int .i64 0, .int .i64 0, .int .u64 0, .int .u64 0, .bool false]).far (a := ⟨b, 0, none⟩) hz (.int .i32 1))
  have M1 := M0.far (a := ⟨g cell, i, none⟩) hz2 (.int .u64 s)
  have S1 : Stay lo hi w (((w.alloc (.cells #[.int .i64 0, .int .i64 0, .int .i64 0, .int .u64 0, .int .u64 0, .bool false] 62)).setCell ⟨b, 0, none⟩ (.int .i32 1)).setCell ⟨g cell, i, none⟩ (.int .u64 s)) :=
    (((Stay.refl lo hi w).alloc _).set_ _ (.inl h.bIn) _).set_ _ (.inl (h.gIn cell hk)) _
  have H2 := H1.put hk i s
  have hlt0 : ¬ (n ≤ i) := by omega
  have hlti : (i : Int) < n := by omega
  go_upto_region 10 with (first
    | (go_at_call 77; refine (lock_free Locks.lib ⟨b, 0, none⟩ _ k0 k1).mono ?_; rintro e w1 ⟨rfl, rfl⟩)
    | (go_at_call 103; refine (f_add2 _ v _ hs a _ Ca).mono ?_; rintro e w2 ⟨rfl, rfl⟩))
  go_upto_region 11 with (fail)
  obtain ⟨W, hW⟩ : ∃ W, ((w.alloc (.cells #[.int .i64 0, .int .i64 0, .int .i64 0, .int .u64 0, .int .u64 0, .bool false] 62)).setCell ⟨b, 0, none⟩ (.int .i32 1)).setCell ⟨g cell, i, none⟩ (.int .u64 s) = W := ⟨_, rfl⟩
  rw [hW] at M1 S1 H2 ⊢
  clear hW M0 H0 H1 k0 k1 c2 hlook hrow hrf
  have d0 := M1.cell 0
  have d1 := M1.cell 1
  have d2 := M1.cell 2
  have d3 := M1.cell 3
  have d4 := M1.cell 4
  have d5 := M1.cell 5
  have df := M1.frozen
  go_wp2
  have M2 : Mem ((((((W.setCell ⟨w.heap.size, 0, none⟩ (.int .i64 4)).setCell ⟨w.heap.size, 1, none⟩ (.int .i64 cell)).setCell ⟨w.heap.size, 2, none⟩ (.int .i64 i)).setCell ⟨w.heap.size, 3, none⟩ (.int .u64 x)).setCell ⟨w.heap.size, 4, none⟩ (.int .u64 s)).setCell ⟨w.heap.size, 5, none⟩ (.bool true)) w.heap.size 62 #[.int .i64 4, .int .i64 cell, .int .i64 i, .int .u64 x, .int .u64 s, .bool true] :=
    ((((((M1.set_ 0 _).set_ 1 _).set_ 2 _).set_ 3 _).set_ 4 _).set_ 5 _)
  have H3 := ((((((H2.far (a := ⟨w.heap.size, 0, none⟩) h.top (.int .i64 4)).far (a := ⟨w.heap.size, 1, none⟩) h.top (.int .i64 cell)).far (a := ⟨w.heap.size, 2, none⟩) h.top (.int .i64 i)).far (a := ⟨w.heap.size, 3, none⟩) h.top (.int .u64 x)).far (a := ⟨w.heap.size, 4, none⟩) h.top (.int .u64 s)).far (a := ⟨w.heap.size, 5, none⟩) h.top (.bool true))
  have S2 := ((((((S1.set_ ⟨w.heap.size, 0, none⟩ (.inr (Nat.le_refl _)) (.int .i64 4)).set_ ⟨w.heap.size, 1, none⟩ (.inr (Nat.le_refl _)) (.int .i64 cell)).set_ ⟨w.heap.size, 2, none⟩ (.inr (Nat.le_refl _)) (.int .i64 i)).set_ ⟨w.heap.size, 3, none⟩ (.inr (Nat.le_refl _)) (.int .u64 x)).set_ ⟨w.heap.size, 4, none⟩ (.inr (Nat.le_refl _)) (.int .u64 s)).set_ ⟨w.heap.size, 5, none⟩ (.inr (Nat.le_refl _)) (.bool true))
  obtain ⟨V, hV⟩ : ∃ V, ((((((W.setCell ⟨w.heap.size, 0, none⟩ (.int .i64 4)).setCell ⟨w.heap.size, 1, none⟩ (.int .i64 cell)).setCell ⟨w.heap.size, 2, none⟩ (.int .i64 i)).setCell ⟨w.heap.size, 3, none⟩ (.int .u64 x)).setCell ⟨w.heap.size, 4, none⟩ (.int .u64 s)).setCell ⟨w.heap.size, 5, none⟩ (.bool true)) = V := ⟨_, rfl⟩
  rw [hV] at M2 H3 S2 ⊢
  refine leaves_cons (f := 78) (args := #[.pointer (some ⟨b, 0, none⟩)]) (by simp) (by simp [go_sem]) ?_
  refine (unlock_deferred Locks.lib ⟨b, 0, none⟩ .returning V (H3.box.cell 0) (H3.box.frozen 0)).mono ?_
  rintro e u' w'' ⟨rfl, rfl, rfl⟩
  have M3 := M2.far (a := ⟨b, 0, none⟩) hz (.int .i32 0)
  have e0 := M3.cell 0
  have e1 := M3.cell 1
  have e2 := M3.cell 2
  have e3 := M3.cell 3
  have e4 := M3.cell 4
  have e5 := M3.cell 5
  refine ⟨_, (results_cell_tmp rfl _ _ _).trans (by simp [go_sem, e0, e1, e2, e3, e4, e5]), rfl, ⟨bm, g, H3.give⟩, S2.set_ _ (.inl h.bIn) _⟩
set_option maxRecDepth 100000 in
theorem p_swap (lo hi : Nat) (w : World) (b bm : Nat) (g : Int → Nat) (A : Int → List Int) (h : Cells lo hi w b A bm g) (cell : Int) (hk : 1 ≤ cell ∧ cell ≤ 8) (i : Nat) (hlt : i < (A cell).length) (x : Int) (hx : (A cell).getD i 0 = x) (o v : Int) (p : Int) (d : Bool) (hp : Hid (p = if x = o then v else x)) (hd : Hid (d = decide (x = o))) (a c : Addr) (ha : w.cell? a = some (.int .u64 o)) (hc : w.cell? c = some (.int .u64 v)) (hi2 : hi ≤ a.block ∧ a.block < w.heap.size) (hi3 : hi ≤ c.block ∧ c.block < w.heap.size) :
    Calls Try.prog 102 #[.pointer (some ⟨b, 0, none⟩), .int .i64 3, .int .i64 cell, .int .i64 i, .func (.func 104) #[] #[.pointer (some a), .pointer (some c)]] w fun e w' => Does lo hi w b (upd A cell i p) (accV 3 cell i x p d) 0 e w' := by
  have hlen := h.len cell
  have H0 := h.alloc (.cells #[.int .i64 0, .int .i64 0, .int .i64 0, .int .u64 0, .int .u64 0, .bool false] 62)
  have H1 := H0.take
  have k0 := H0.box.cell 0
  have k1 := H0.box.frozen 0
  have c2 := H1.box.cell 2
  have hlook := H1.look cell
  rw [if_pos hk] at hlook
  have hrow := Row.cell (H1.row cell hk) i hlt
  have hrf := (H1.row cell hk).frozen i
  have Ca : ((w.alloc (.cells #[.int .i64 0, .int .i64 0, .int .i64 0, .int .u64 0, .int .u64 0, .bool false] 62)).setCell ⟨b, 0, none⟩ (.int .i32 1)).cell? a = some (.int .u64 o) :=
    (World.cell?_of_block ((Below.heap_setCell _ _ _ a.block (by have := h.bIn; show a.block ≠ b; omega)).trans (BlkW.heap_alloc_old w _ a.block (by have := hi2; omega)))).trans ha
  have Cc : ((w.alloc (.cells #[.int .i64 0, .int .i64 0, .int .i64 0, .int .u64 0, .int .u64 0, .bool false] 62)).setCell ⟨b, 0, none⟩ (.int .i32 1)).cell? c = some (.int .u64 v) :=
    (World.cell?_of_block ((Below.heap_setCell _ _ _ c.block (by have := h.bIn; show c.block ≠ b; omega)).trans (BlkW.heap_alloc_old w _ c.block (by have := hi3; omega)))).trans hc
  rw [hx] at hrow
  obtain ⟨n, hn⟩ : ∃ n, (A cell).length = n := ⟨_, rfl⟩
  rw [hn] at hlook hlt hlen
  go_enter_defers Try.func102, Try.ntmps102
  have hz : w.heap.size ≠ b := by have := H0.bIn; have := h.top; omega
  have hz2 : w.heap.size ≠ g cell := by have := H0.gIn cell hk; have := h.top; omega
  have M0 := ((Mem.new w 62 #[.int .i64 0, .int .i64 0, .int .i64 0, .int .u64 0, .int .u64 0, .bool false]).far (a := ⟨b, 0, none⟩) hz (.int .i32 1))
  have M1 := M0.far (a := ⟨g cell, i, none⟩) hz2 (.int .u64 p)
  have S1 : Stay lo hi w (((w.alloc (.cells #[.int .i64 0, .int .i64 0, .int .i64 0, .int .u64 0, .int .u64 0, .bool false] 62)).setCell ⟨b, 0, none⟩ (.int .i32 1)).setCell ⟨g cell, i, none⟩ (.int .u64 p)) :=
    (((Stay.refl lo hi w).alloc _).set_ _ (.inl h.bIn) _).set_ _ (.inl (h.gIn cell hk)) _
  have H2 := H1.put hk i p
  have hlt0 : ¬ (n ≤ i) := by omega
  have hlti : (i : Int) < n := by omega
  go_upto_region 10 with (first
    | (go_at_call 77; refine (lock_free Locks.lib ⟨b, 0, none⟩ _ k0 k1).mono ?_; rintro e w1 ⟨rfl, rfl⟩)
    | (go_at_call 104; refine (f_swap2 _ o v p d hp.out hd.out a c _ Ca Cc).mono ?_; rintro e w2 ⟨rfl, rfl⟩))
  go_upto_region 11 with (fail)
  obtain ⟨W, hW⟩ : ∃ W, ((w.alloc (.cells #[.int .i64 0, .int .i64 0, .int .i64 0, .int .u64 0, .int .u64 0, .bool false] 62)).setCell ⟨b, 0, none⟩ (.int .i32 1)).setCell ⟨g cell, i, none⟩ (.int .u64 p) = W := ⟨_, rfl⟩
  rw [hW] at M1 S1 H2 ⊢
  clear hW M0 H0 H1 k0 k1 c2 hlook hrow hrf
  have d0 := M1.cell 0
  have d1 := M1.cell 1
  have d2 := M1.cell 2
  have d3 := M1.cell 3
  have d4 := M1.cell 4
  have d5 := M1.cell 5
  have df := M1.frozen
  go_wp2
  have M2 : Mem ((((((W.setCell ⟨w.heap.size, 0, none⟩ (.int .i64 3)).setCell ⟨w.heap.size, 1, none⟩ (.int .i64 cell)).setCell ⟨w.heap.size, 2, none⟩ (.int .i64 i)).setCell ⟨w.heap.size, 3, none⟩ (.int .u64 x)).setCell ⟨w.heap.size, 4, none⟩ (.int .u64 p)).setCell ⟨w.heap.size, 5, none⟩ (.bool d)) w.heap.size 62 #[.int .i64 3, .int .i64 cell, .int .i64 i, .int .u64 x, .int .u64 p, .bool d] :=
    ((((((M1.set_ 0 _).set_ 1 _).set_ 2 _).set_ 3 _).set_ 4 _).set_ 5 _)
  have H3 := ((((((H2.far (a := ⟨w.heap.size, 0, none⟩) h.top (.int .i64 3)).far (a := ⟨w.heap.size, 1, none⟩) h.top (.int .i64 cell)).far (a := ⟨w.heap.size, 2, none⟩) h.top (.int .i64 i)).far (a := ⟨w.heap.size, 3, none⟩) h.top (.int .u64 x)).far (a := ⟨w.heap.size, 4, none⟩) h.top (.int .u64 p)).far (a := ⟨w.heap.size, 5, none⟩) h.top (.bool d))
  have S2 := ((((((S1.set_ ⟨w.heap.size, 0, none⟩ (.inr (Nat.le_refl _)) (.int .i64 3)).set_ ⟨w.heap.size, 1, none⟩ (.inr (Nat.le_refl _)) (.int .i64 cell)).set_ ⟨w.heap.size, 2, none⟩ (.inr (Nat.le_refl _)) (.int .i64 i)).set_ ⟨w.heap.size, 3, none⟩ (.inr (Nat.le_refl _)) (.int .u64 x)).set_ ⟨w.heap.size, 4, none⟩ (.inr (Nat.le_refl _)) (.int .u64 p)).set_ ⟨w.heap.size, 5, none⟩ (.inr (Nat.le_refl _)) (.bool d))
  obtain ⟨V, hV⟩ : ∃ V, ((((((W.setCell ⟨w.heap.size, 0, none⟩ (.int .i64 3)).setCell ⟨w.heap.size, 1, none⟩ (.int .i64 cell)).setCell ⟨w.heap.size, 2, none⟩ (.int .i64 i)).setCell ⟨w.heap.size, 3, none⟩ (.int .u64 x)).setCell ⟨w.heap.size, 4, none⟩ (.int .u64 p)).setCell ⟨w.heap.size, 5, none⟩ (.bool d)) = V := ⟨_, rfl⟩
  rw [hV] at M2 H3 S2 ⊢
  refine leaves_cons (f := 78) (args := #[.pointer (some ⟨b, 0, none⟩)]) (by simp) (by simp [go_sem]) ?_
  refine (unlock_deferred Locks.lib ⟨b, 0, none⟩ .returning V (H3.box.cell 0) (H3.box.frozen 0)).mono ?_
  rintro e u' w'' ⟨rfl, rfl, rfl⟩
  have M3 := M2.far (a := ⟨b, 0, none⟩) hz (.int .i32 0)
  have e0 := M3.cell 0
  have e1 := M3.cell 1
  have e2 := M3.cell 2
  have e3 := M3.cell 3
  have e4 := M3.cell 4
  have e5 := M3.cell 5
  refine ⟨_, (results_cell_tmp rfl _ _ _).trans (by simp [go_sem, e0, e1, e2, e3, e4, e5]), rfl, ⟨bm, g, H3.give⟩, S2.set_ _ (.inl h.bIn) _⟩
set_option maxRecDepth 100000 in
theorem p_none (lo hi : Nat) (w : World) (b bm : Nat) (g : Int → Nat) (A : Int → List Int) (h : Cells lo hi w b A bm g) (kind cell ix : Int) (hno : ¬ (0 ≤ ix ∧ ix < (A cell).length)) (fv : Value) :
    Calls Try.prog 102 #[.pointer (some ⟨b, 0, none⟩), .int .i64 kind, .int .i64 cell, .int .i64 ix, fv] w fun e w' => Does lo hi w b A (accV 0 0 0 0 0 false) 60 e w' := by
  have hlen := h.len cell
  have H0 := h.alloc (.cells #[.int .i64 0, .int .i64 0, .int .i64 0, .int .u64 0, .int .u64 0, .bool false] 62)
  have H2 := H0.take
  have k0 := H0.box.cell 0
  have k1 := H0.box.frozen 0
  have c2 := H2.box.cell 2
  obtain ⟨ad, hlook⟩ : ∃ ad, (Instr.lookup TMap (.map (some bm)) (.int .i64 cell) false).run Try.prog ((w.alloc (.cells #[.int .i64 0, .int .i64 0, .int .i64 0, .int .u64 0, .int .u64 0, .bool false] 62)).setCell ⟨b, 0, none⟩ (.int .i32 1)) = .ok (.slice ad (A cell).length (A cell).length) ((w.alloc (.cells #[.int .i64 0, .int .i64 0, .int .i64 0, .int .u64 0, .int .u64 0, .bool false] 62)).setCell ⟨b, 0, none⟩ (.int .i32 1)) := by
    have := H2.look cell
    by_cases hk : 1 ≤ cell ∧ cell ≤ 8
    · rw [if_pos hk] at this
      exact ⟨_, this⟩
    · rw [if_neg hk] at this
      rw [h.out cell hk]
      exact ⟨_, this⟩
  obtain ⟨n, hn⟩ : ∃ n, (A cell).length = n := ⟨_, rfl⟩
  rw [hn] at hlook hlen hno
  have hz : w.heap.size ≠ b := by have := H0.bIn; have := h.top; omega
  have M1 := ((Mem.new w 62 #[.int .i64 0, .int .i64 0, .int .i64 0, .int .u64 0, .int .u64 0, .bool false]).far (a := ⟨b, 0, none⟩) hz (.int .i32 1))
  have S1 : Stay lo hi w ((w.alloc (.cells #[.int .i64 0, .int .i64 0, .int .i64 0, .int .u64 0, .int .u64 0, .bool false] 62)).setCell ⟨b, 0, none⟩ (.int .i32 1)) := ((Stay.refl lo hi w).alloc _).set_ _ (.inl h.bIn) _
  by_cases hneg : ix < 0
  · clear hno
    go_enter_defers Try.func102, Try.ntmps102
    go_upto_region 7 with (go_at_call 77; refine (lock_free Locks.lib ⟨b, 0, none⟩ _ k0 k1).mono ?_; rintro e w1 ⟨rfl, rfl⟩)
    obtain ⟨W, hW⟩ : ∃ W, (w.alloc (.cells #[.int .i64 0, .int .i64 0, .int .i64 0, .int .u64 0, .int .u64 0, .bool false] 62)).setCell ⟨b, 0, none⟩ (.int .i32 1) = W := ⟨_, rfl⟩
    rw [hW] at M1 S1 H2 ⊢
    clear hW H0 k0 k1 c2 hlook
    have d0 := M1.cell 0
    have d1 := M1.cell 1
    have d2 := M1.cell 2
    have d3 := M1.cell 3
    have d4 := M1.cell 4
    have d5 := M1.cell 5
    have df := M1.frozen
    go_wp2
    have M2 : Mem ((((((W.setCell ⟨w.heap.size, 0, none⟩ (.int .i64 0)).setCell ⟨w.heap.size, 1, none⟩ (.int .i64 0)).setCell ⟨w.heap.size, 2, none⟩ (.int .i64 0)).setCell ⟨w.heap.size, 3, none⟩ (.int .u64 0)).setCell ⟨w.heap.size, 4, none⟩ (.int .u64 0)).setCell ⟨w.heap.size, 5, none⟩ (.bool false)) w.heap.size 62 #[.int .i64 0, .int .i64 0, .int .i64 0, .int .u64 0, .int .u64 0, .bool false] :=
      ((((((M1.set_ 0 _).set_ 1 _).set_ 2 _).set_ 3 _).set_ 4 _).set_ 5 _)
    have H3 := ((((((H2.far (a := ⟨w.heap.size, 0, none⟩) h.top (.int .i64 0)).far (a := ⟨w.heap.size, 1, none⟩) h.top (.int .i64 0)).far (a := ⟨w.heap.size, 2, none⟩) h.top (.int .i64 0)).far (a := ⟨w.heap.size, 3, none⟩) h.top (.int .u64 0)).far (a := ⟨w.heap.size, 4, none⟩) h.top (.int .u64 0)).far (a := ⟨w.heap.size, 5, none⟩) h.top (.bool false))
    have S2 := ((((((S1.set_ ⟨w.heap.size, 0, none⟩ (.inr (Nat.le_refl _)) (.int .i64 0)).set_ ⟨w.heap.size, 1, none⟩ (.inr (Nat.le_refl _)) (.int .i64 0)).set_ ⟨w.heap.size, 2, none⟩ (.inr (Nat.le_refl _)) (.int .i64 0)).set_ ⟨w.heap.size, 3, none⟩ (.inr (Nat.le_refl _)) (.int .u64 0)).set_ ⟨w.heap.size, 4, none⟩ (.inr (Nat.le_refl _)) (.int .u64 0)).set_ ⟨w.heap.size, 5, none⟩ (.inr (Nat.le_refl _)) (.bool false))
    obtain ⟨V, hV⟩ : ∃ V, ((((((W.setCell ⟨w.heap.size, 0, none⟩ (.int .i64 0)).setCell ⟨w.heap.size, 1, none⟩ (.int .i64 0)).setCell ⟨w.heap.size, 2, none⟩ (.int .i64 0)).setCell ⟨w.heap.size, 3, none⟩ (.int .u64 0)).setCell ⟨w.heap.size, 4, none⟩ (.int .u64 0)).setCell ⟨w.heap.size, 5, none⟩ (.bool false)) = V := ⟨_, rfl⟩
    rw [hV] at M2 H3 S2 ⊢
    refine leaves_cons (f := 78) (args := #[.pointer (some ⟨b, 0, none⟩)]) (by simp) (by simp [go_sem]) ?_
    refine (unlock_deferred Locks.lib ⟨b, 0, none⟩ .returning V (H3.box.cell 0) (H3.box.frozen 0)).mono ?_
    rintro e u' w'' ⟨rfl, rfl, rfl⟩
    have M3 := M2.far (a := ⟨b, 0, none⟩) hz (.int .i32 0)
    have e0 := M3.cell 0
    have e1 := M3.cell 1
    have e2 := M3.cell 2
    have e3 := M3.cell 3
    have e4 := M3.cell 4
    have e5 := M3.cell 5
    refine ⟨_, (results_cell_tmp rfl _ _ _).trans (by simp [go_sem, e0, e1, e2, e3, e4, e5]), rfl, ⟨bm, g, H3.give⟩, S2.set_ _ (.inl h.bIn) _⟩
  · have hge : (n : Int) ≤ ix := by omega
    clear hno
    go_enter_defers Try.func102, Try.ntmps102
    go_upto_region 7 with (go_at_call 77; refine (lock_free Locks.lib ⟨b, 0, none⟩ _ k0 k1).mono ?_; rintro e w1 ⟨rfl, rfl⟩)
    obtain ⟨W, hW⟩ : ∃ W, (w.alloc (.cells #[.int .i64 0, .int .i64 0, .int .i64 0, .int .u64 0, .int .u64 0, .bool false] 62)).setCell ⟨b, 0, none⟩ (.int .i32 1) = W := ⟨_, rfl⟩
    rw [hW] at M1 S1 H2 ⊢
    clear hW H0 k0 k1 c2 hlook
    have d0 := M1.cell 0
    have d1 := M1.cell 1
    have d2 := M1.cell 2
    have d3 := M1.cell 3
    have d4 := M1.cell 4
    have d5 := M1.cell 5
    have df := M1.frozen
    go_wp2
    have M2 : Mem ((((((W.setCell ⟨w.heap.size, 0, none⟩ (.int .i64 0)).setCell ⟨w.heap.size, 1, none⟩ (.int .i64 0)).setCell ⟨w.heap.size, 2, none⟩ (.int .i64 0)).setCell ⟨w.heap.size, 3, none⟩ (.int .u64 0)).setCell ⟨w.heap.size, 4, none⟩ (.int .u64 0)).setCell ⟨w.heap.size, 5, none⟩ (.bool false)) w.heap.size 62 #[.int .i64 0, .int .i64 0, .int .i64 0, .int .u64 0, .int .u64 0, .bool false] :=
      ((((((M1.set_ 0 _).set_ 1 _).set_ 2 _).set_ 3 _).set_ 4 _).set_ 5 _)
    have H3 := ((((((H2.far (a := ⟨w.heap.size, 0, none⟩) h.top (.int .i64 0)).far (a := ⟨w.heap.size, 1, none⟩) h.top (.int .i64 0)).far (a := ⟨w.heap.size, 2, none⟩) h.top (.int .i64 0)).far (a := ⟨w.heap.size, 3, none⟩) h.top (.int .u64 0)).far (a := ⟨w.heap.size, 4, none⟩) h.top (.int .u64 0)).far (a := ⟨w.heap.size, 5, none⟩) h.top (.bool false))
    have S2 := ((((((S1.set_ ⟨w.heap.size, 0, none⟩ (.inr (Nat.le_refl _)) (.int .i64 0)).set_ ⟨w.heap.size, 1, none⟩ (.inr (Nat.le_refl _)) (.int .i64 0)).set_ ⟨w.heap.size, 2, none⟩ (.inr (Nat.le_refl _)) (.int .i64 0)).set_ ⟨w.heap.size, 3, none⟩ (.inr (Nat.le_refl _)) (.int .u64 0)).set_ ⟨w.heap.size, 4, none⟩ (.inr (Nat.le_refl _)) (.int .u64 0)).set_ ⟨w.heap.size, 5, none⟩ (.inr (Nat.le_refl _)) (.bool false))
    obtain ⟨V, hV⟩ : ∃ V, ((((((W.setCell ⟨w.heap.size, 0, none⟩ (.int .i64 0)).setCell ⟨w.heap.size, 1, none⟩ (.int .i64 0)).setCell ⟨w.heap.size, 2, none⟩ (.int .i64 0)).setCell ⟨w.heap.size, 3, none⟩ (.int .u64 0)).setCell ⟨w.heap.size, 4, none⟩ (.int .u64 0)).setCell ⟨w.heap.size, 5, none⟩ (.bool false)) = V := ⟨_, rfl⟩
    rw [hV] at M2 H3 S2 ⊢
    refine leaves_cons (f := 78) (args := #[.pointer (some ⟨b, 0, none⟩)]) (by simp) (by simp [go_sem]) ?_
    refine (unlock_deferred Locks.lib ⟨b, 0, none⟩ .returning V (H3.box.cell 0) (H3.box.frozen 0)).mono ?_
    rintro e u' w'' ⟨rfl, rfl, rfl⟩
    have M3 := M2.far (a := ⟨b, 0, none⟩) hz (.int .i32 0)
    have e0 := M3.cell 0
    have e1 := M3.cell 1
    have e2 := M3.cell 2
    have e3 := M3.cell 3
    have e4 := M3.cell 4
    have e5 := M3.cell 5
    refine ⟨_, (results_cell_tmp rfl _ _ _).trans (by simp [go_sem, e0, e1, e2, e3, e4, e5]), rfl, ⟨bm, g, H3.give⟩, S2.set_ _ (.inl h.bIn) _⟩
set_option maxRecDepth 100000 in
theorem p_nil (w : World) (kind cell ix : Int) (fv : Value) :
    Calls Try.prog 102 #[.pointer none, .int .i64 kind, .int .i64 cell, .int .i64 ix, fv] w fun e w' => e = .returned (.tuple #[accV 0 0 0 0 0 false, .int .i64 1]) ∧ Below w.heap.size w w' := by
  have M0 := Mem.new w 62 #[.int .i64 0, .int .i64 0, .int .i64 0, .int .u64 0, .int .u64 0, .bool false]
  have B0 := below_new w (.cells #[.int .i64 0, .int .i64 0, .int .i64 0, .int .u64 0, .int .u64 0, .bool false] 62)
  have d0 := M0.cell 0
  have d1 := M0.cell 1
  have d2 := M0.cell 2
  have d3 := M0.cell 3
  have d4 := M0.cell 4
  have d5 := M0.cell 5
  have df := M0.frozen
  go_enter_defers Try.func102, Try.ntmps102
  go_wp2
  obtain ⟨V, hV⟩ : ∃ V, w.alloc (.cells #[.int .i64 0, .int .i64 0, .int .i64 0, .int .u64 0, .int .u64 0, .bool false] 62) = V := ⟨_, rfl⟩
  rw [hV] at d0 d1 d2 d3 d4 d5 B0 ⊢
  simp at d0 d1 d2 d3 d4 d5
  refine ⟨_, (results_cell_tmp rfl _ _ _).trans (by simp [go_sem, d0, d1, d2, d3, d4, d5]), rfl, B0⟩
end Go.Proofs.Ytpjbmbipkmpkhaa.CelP
