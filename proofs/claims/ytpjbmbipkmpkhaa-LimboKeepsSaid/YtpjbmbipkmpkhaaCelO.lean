/-
  Contracts of package cells: Load, Store, Swap, Add.
-/
import Derived.Test.YtpjbmbipkmpkhaaCelP
namespace Go.Proofs.Ytpjbmbipkmpkhaa.CelO
open Go.ChangeShapes Go.WideShapes Go.ChangeAt Go.RowKit Go.MuLone
open PlainT BlkW CelS CelM CelP
set_option linter.unusedVariables false
set_option maxHeartbeats 1000000

/-- A box of an access is written. -/
theorem store6 {w : World} {gb : Nat} {c0 c1 c2 c3 c4 c5 : Value} (h : Mem w gb 62 #[c0, c1, c2, c3, c4, c5]) (v0 v1 v2 v3 v4 v5 : Value) :
    Mem ((((((w.setCell ⟨gb, 0, none⟩ v0).setCell ⟨gb, 1, none⟩ v1).setCell ⟨gb, 2, none⟩ v2).setCell ⟨gb, 3, none⟩ v3).setCell ⟨gb, 4, none⟩ v4).setCell ⟨gb, 5, none⟩ v5) gb 62 #[v0, v1, v2, v3, v4, v5] ∧
    Stay gb (gb + 1) w ((((((w.setCell ⟨gb, 0, none⟩ v0).setCell ⟨gb, 1, none⟩ v1).setCell ⟨gb, 2, none⟩ v2).setCell ⟨gb, 3, none⟩ v3).setCell ⟨gb, 4, none⟩ v4).setCell ⟨gb, 5, none⟩ v5) := by
  have hb : gb ≤ gb ∧ gb < gb + 1 := ⟨Nat.le_refl _, Nat.lt_succ_self _⟩
  exact ⟨(((((h.set_ 0 v0).set_ 1 v1).set_ 2 v2).set_ 3 v3).set_ 4 v4).set_ 5 v5,
    ((((((Stay.refl gb (gb + 1) w).set_ ⟨gb, 0, none⟩ (.inl hb) v0).set_ ⟨gb, 1, none⟩ (.inl hb) v1).set_ ⟨gb, 2, none⟩ (.inl hb) v2).set_ ⟨gb, 3, none⟩ (.inl hb) v3).set_ ⟨gb, 4, none⟩ (.inl hb) v4).set_ ⟨gb, 5, none⟩ (.inl hb) v5⟩
/-- Blocks that were new at w may turn. -/
theorem Stay.over {lo hi a b : Nat} {w w1 w2 : World} (h : Stay lo hi w w1) (k : Stay a b w1 w2) (ha : w.heap.size ≤ a) : Stay lo hi w w2 :=
  ⟨k.os.trans h.os, k.tape.trans h.tape, k.output.trans h.output, Nat.le_trans h.size k.size, fun x hx hr => (k.block x (Nat.lt_of_lt_of_le hx h.size) (.inl (by omega))).trans (h.block x hx hr)⟩
set_option maxRecDepth 100000 in
theorem m_load (lo hi : Nat) (w : World) (b : Nat) (A : Int → List Int) (h : Is lo hi w b A) (cell : Int) (hk : 1 ≤ cell ∧ cell ≤ 8) (i : Nat) (hlt : i < (A cell).length) (x : Int) (hx : (A cell).getD i 0 = x) : Calls Try.prog 70 #[.pointer (some ⟨b, 0, none⟩), .int .i64 cell, .int .i64 i] w fun e w' => Does lo hi w b (upd A cell i x) (accV 1 cell i x x true) 0 e w' := by
  obtain ⟨bm, g, h⟩ := h
  have B0 : Below w.heap.size w (w.alloc (.cells #[.int .i64 0, .int .i64 0, .int .i64 0, .int .u64 0, .int .u64 0, .bool false] 62)) := below_new w _
  have M0 : Mem (w.alloc (.cells #[.int .i64 0, .int .i64 0, .int .i64 0, .int .u64 0, .int .u64 0, .bool false] 62)) (w.heap.size) 62 #[.int .i64 0, .int .i64 0, .int .i64 0, .int .u64 0, .int .u64 0, .bool false] := Mem.new w _ _
  have SZ : (w.alloc (.cells #[.int .i64 0, .int .i64 0, .int .i64 0, .int .u64 0, .int .u64 0, .bool false] 62)).heap.size = w.heap.size + 1 := by rw [size_new]
  have H0 : Cells lo hi (w.alloc (.cells #[.int .i64 0, .int .i64 0, .int .i64 0, .int .u64 0, .int .u64 0, .bool false] 62)) b A bm g := h.below B0
  have htop := h.top
  obtain ⟨W, hW⟩ : ∃ W, (w.alloc (.cells #[.int .i64 0, .int .i64 0, .int .i64 0, .int .u64 0, .int .u64 0, .bool false] 62)) = W := ⟨_, rfl⟩
  rw [hW] at B0 M0 SZ H0
  go_enter Try.func70, Try.ntmps70
  go_upto_region 1 with (fail)
  try rw [hW]
  clear hW
  go_wp2_with (go_at_call 102; (with_reducible refine (p_load lo hi _ b bm g A H0 cell hk i hlt x hx).mono ?_); rintro e w1 ⟨rfl, hIs, hSt⟩; have M1 : Mem w1 (w.heap.size) 62 #[.int .i64 0, .int .i64 0, .int .i64 0, .int .u64 0, .int .u64 0, .bool false] := (hSt.block (w.heap.size) (by omega) (.inr (by omega))).trans M0; have HI := Lib.hid hIs; have HS := Lib.hid hSt; clear hIs hSt M0; have d0 := M1.cell 0; have d1 := M1.cell 1; have d2 := M1.cell 2; have d3 := M1.cell 3; have d4 := M1.cell 4; have d5 := M1.cell 5; have df := M1.frozen)
  obtain ⟨M2, S2⟩ := store6 M1 (.int .i64 1) (.int .i64 cell) (.int .i64 i) (.int .u64 x) (.int .u64 x) (.bool true)
  have I2 := HI.out.stay S2 (.inl (by omega))
  have S3 := Stay.over ((Stay.of_below (lo := lo) (hi := hi) B0).trans HS.out) S2 (by omega)
  obtain ⟨V, hV⟩ : ∃ V, ((((((w1.setCell ⟨w.heap.size, 0, none⟩ (.int .i64 1)).setCell ⟨w.heap.size, 1, none⟩ (.int .i64 cell)).setCell ⟨w.heap.size, 2, none⟩ (.int .i64 i)).setCell ⟨w.heap.size, 3, none⟩ (.int .u64 x)).setCell ⟨w.heap.size, 4, none⟩ (.int .u64 x)).setCell ⟨w.heap.size, 5, none⟩ (.bool true)) = V := ⟨_, rfl⟩
  rw [hV] at M2 I2 S3 ⊢
  have e0 := M2.cell 0
  have e1 := M2.cell 1
  have e2 := M2.cell 2
  have e3 := M2.cell 3
  have e4 := M2.cell 4
  have e5 := M2.cell 5
  simp at e0 e1 e2 e3 e4 e5
  refine bodyPost_ret (v := .tuple #[accV 1 cell i x x true, .int .i64 0]) ((results_cell_tmp rfl _ _ _).trans (by simp [go_sem, e0, e1, e2, e3, e4, e5])) rfl ⟨rfl, I2, S3⟩
set_option maxRecDepth 100000 in
theorem m_store (lo hi : Nat) (w : World) (b : Nat) (A : Int → List Int) (h : Is lo hi w b A) (cell : Int) (hk : 1 ≤ cell ∧ cell ≤ 8) (i : Nat) (hlt : i < (A cell).length) (x : Int) (hx : (A cell).getD i 0 = x) (v : Int) : Calls Try.prog 72 #[.pointer (some ⟨b, 0, none⟩), .int .i64 cell, .int .i64 i, .int .u64 v] w fun e w' => Does lo hi w b (upd A cell i v) (accV 2 cell i x v true) 0 e w' := by
  obtain ⟨bm, g, h⟩ := h
  have B0 : Below w.heap.size w ((w.alloc (.cells #[.int .u64 v] 29)).alloc (.cells #[.int .i64 0, .int .i64 0, .int .i64 0, .int .u64 0, .int .u64 0, .bool false] 62)) := below_new2 w _ _
  have M0 : Mem ((w.alloc (.cells #[.int .u64 v] 29)).alloc (.cells #[.int .i64 0, .int .i64 0, .int .i64 0, .int .u64 0, .int .u64 0, .bool false] 62)) (w.heap.size + 1) 62 #[.int .i64 0, .int .i64 0, .int .i64 0, .int .u64 0, .int .u64 0, .bool false] := mem_new1 w _ _ _
  have SZ : ((w.alloc (.cells #[.int .u64 v] 29)).alloc (.cells #[.int .i64 0, .int .i64 0, .int .i64 0, .int .u64 0, .int .u64 0, .bool false] 62)).heap.size = w.heap.size + 2 := by rw [size_new, size_new]
  have C0 : ((w.alloc (.cells #[.int .u64 v] 29)).alloc (.cells #[.int .i64 0, .int .i64 0, .int .i64 0, .int .u64 0, .int .u64 0, .bool false] 62)).cell? ⟨w.heap.size, 0, none⟩ = some (.int .u64 v) := Mem.cell (show Mem ((w.alloc (.cells #[.int .u64 v] 29)).alloc (.cells #[.int .i64 0, .int .i64 0, .int .i64 0, .int .u64 0, .int .u64 0, .bool false] 62)) (w.heap.size) 29 #[.int .u64 v] from (Mem.new w _ _).alloc _) 0
  have H0 : Cells lo hi ((w.alloc (.cells #[.int .u64 v] 29)).alloc (.cells #[.int .i64 0, .int .i64 0, .int .i64 0, .int .u64 0, .int .u64 0, .bool false] 62)) b A bm g := h.below B0
  have htop := h.top
  obtain ⟨W, hW⟩ : ∃ W, ((w.alloc (.cells #[.int .u64 v] 29)).alloc (.cells #[.int .i64 0, .int .i64 0, .int .i64 0, .int .u64 0, .int .u64 0, .bool false] 62)) = W := ⟨_, rfl⟩
  rw [hW] at B0 M0 SZ C0 H0
  go_enter Try.func72, Try.ntmps72
  go_upto_region 1 with (fail)
  try rw [hW]
  clear hW
  go_wp2_with (go_at_call 102; (with_reducible refine (p_store lo hi _ b bm g A H0 cell hk i hlt x hx v ⟨w.heap.size, 0, none⟩ C0 ⟨htop, by show w.heap.size < W.heap.size; omega⟩).mono ?_); rintro e w1 ⟨rfl, hIs, hSt⟩; have M1 : Mem w1 (w.heap.size + 1) 62 #[.int .i64 0, .int .i64 0, .int .i64 0, .int .u64 0, .int .u64 0, .bool false] := (hSt.block (w.heap.size + 1) (by omega) (.inr (by omega))).trans M0; have HI := Lib.hid hIs; have HS := Lib.hid hSt; clear hIs hSt M0; have d0 := M1.cell 0; have d1 := M1.cell 1; have d2 := M1.cell 2; have d3 := M1.cell 3; have d4 := M1.cell 4; have d5 := M1.cell 5; have df := M1.frozen)
  obtain ⟨M2, S2⟩ := store6 M1 (.int .i64 2) (.int .i64 cell) (.int .i64 i) (.int .u64 x) (.int .u64 v) (.bool true)
  have I2 := HI.out.stay S2 (.inl (by omega))
  have S3 := Stay.over ((Stay.of_below (lo := lo) (hi := hi) B0).trans HS.out) S2 (by omega)
  obtain ⟨V, hV⟩ : ∃ V, ((((((w1.setCell ⟨w.heap.size + 1, 0, none⟩ (.int .i64 2)).setCell ⟨w.heap.size + 1, 1, none⟩ (.int .i64 cell)).setCell ⟨w.heap.size + 1, 2, none⟩ (.int .i64 i)).setCell ⟨w.heap.size + 1, 3, none⟩ (.int .u64 x)).setCell ⟨w.heap.size + 1, 4, none⟩ (.int .u64 v)).setCell ⟨w.heap.size + 1, 5, none⟩ (.bool true)) = V := ⟨_, rfl⟩
  rw [hV] at M2 I2 S3 ⊢
  have e0 := M2.cell 0
  have e1 := M2.cell 1
  have e2 := M2.cell 2
  have e3 := M2.cell 3
  have e4 := M2.cell 4
  have e5 := M2.cell 5
  simp at e0 e1 e2 e3 e4 e5
  refine bodyPost_ret (v := .tuple #[accV 2 cell i x v true, .int .i64 0]) ((results_cell_tmp rfl _ _ _).trans (by simp [go_sem, e0, e1, e2, e3, e4, e5])) rfl ⟨rfl, I2, S3⟩
set_option maxRecDepth 100000 in
theorem m_add (lo hi : Nat) (w : World) (b : Nat) (A : Int → List Int) (h : Is lo hi w b A) (cell : Int) (hk : 1 ≤ cell ∧ cell ≤ 8) (i : Nat) (hlt : i < (A cell).length) (x : Int) (hx : (A cell).getD i 0 = x) (v s : Int) (hs : Hid (IntKind.u64.wrap (x + v) = s)) : Calls Try.prog 66 #[.pointer (some ⟨b, 0, none⟩), .int .i64 cell, .int .i64 i, .int .u64 v] w fun e w' => Does lo hi w b (upd A cell i s) (accV 4 cell i x s true) 0 e w' := by
  obtain ⟨bm, g, h⟩ := h
  have B0 : Below w.heap.size w ((w.alloc (.cells #[.int .u64 v] 29)).alloc (.cells #[.int .i64 0, .int .i64 0, .int .i64 0, .int .u64 0, .int .u64 0, .bool false] 62)) := below_new2 w _ _
  have M0 : Mem ((w.alloc (.cells #[.int .u64 v] 29)).alloc (.cells #[.int .i64 0, .int .i64 0, .int .i64 0, .int .u64 0, .int .u64 0, .bool false] 62)) (w.heap.size + 1) 62 #[.int .i64 0, .int .i64 0, .int .i64 0, .int .u64 0, .int .u64 0, .bool false] := mem_new1 w _ _ _
  have SZ : ((w.alloc (.cells #[.int .u64 v] 29)).alloc (.cells #[.int .i64 0, .int .i64 0, .int .i64 0, .int .u64 0, .int .u64 0, .bool false] 62)).heap.size = w.heap.size + 2 := by rw [size_new, size_new]
  have C0 : ((w.alloc (.cells #[.int .u64 v] 29)).alloc (.cells #[.int .i64 0, .int .i64 0, .int .i64 0, .int .u64 0, .int .u64 0, .bool false] 62)).cell? ⟨w.heap.size, 0, none⟩ = some (.int .u64 v) := Mem.cell (show Mem ((w.alloc (.cells #[.int .u64 v] 29)).alloc (.cells #[.int .i64 0, .int .i64 0, .int .i64 0, .int .u64 0, .int .u64 0, .bool false] 62)) (w.heap.size) 29 #[.int .u64 v] from (Mem.new w _ _).alloc _) 0
  have H0 : Cells lo hi ((w.alloc (.cells #[.int .u64 v] 29)).alloc (.cells #[.int .i64 0, .int .i64 0, .int .i64 0, .int .u64 0, .int .u64 0, .bool false] 62)) b A bm g := h.below B0
  have htop := h.top
  obtain ⟨W, hW⟩ : ∃ W, ((w.alloc (.cells #[.int .u64 v] 29)).alloc (.cells #[.int .i64 0, .int .i64 0, .int .i64 0, .int .u64 0, .int .u64 0, .bool false] 62)) = W := ⟨_, rfl⟩
  rw [hW] at B0 M0 SZ C0 H0
  go_enter Try.func66, Try.ntmps66
  go_upto_region 1 with (fail)
  try rw [hW]
  clear hW
  go_wp2_with (go_at_call 102; (with_reducible refine (p_add lo hi _ b bm g A H0 cell hk i hlt x hx v s hs.out ⟨w.heap.size, 0, none⟩ C0 ⟨htop, by show w.heap.size < W.heap.size; omega⟩).mono ?_); rintro e w1 ⟨rfl, hIs, hSt⟩; have M1 : Mem w1 (w.heap.size + 1) 62 #[.int .i64 0, .int .i64 0, .int .i64 0, .int .u64 0, .int .u64 0, .bool false] := (hSt.block (w.heap.size + 1) (by omega) (.inr (by omega))).trans M0; have HI := Lib.hid hIs; have HS := Lib.hid hSt; clear hIs hSt M0; have d0 := M1.cell 0; have d1 := M1.cell 1; have d2 := M1.cell 2; have d3 := M1.cell 3; have d4 := M1.cell 4; have d5 := M1.cell 5; have df := M1.frozen)
  obtain ⟨M2, S2⟩ := store6 M1 (.int .i64 4) (.int .i64 cell) (.int .i64 i) (.int .u64 x) (.int .u64 s) (.bool true)
  have I2 := HI.out.stay S2 (.inl (by omega))
  have S3 := Stay.over ((Stay.of_below (lo := lo) (hi := hi) B0).trans HS.out) S2 (by omega)
  obtain ⟨V, hV⟩ : ∃ V, ((((((w1.setCell ⟨w.heap.size + 1, 0, none⟩ (.int .i64 4)).setCell ⟨w.heap.size + 1, 1, none⟩ (.int .i64 cell)).setCell ⟨w.heap.size + 1, 2, none⟩ (.int .i64 i)).setCell ⟨w.heap.size + 1, 3, none⟩ (.int .u64 x)).setCell ⟨w.heap.size + 1, 4, none⟩ (.int .u64 s)).setCell ⟨w.heap.size + 1, 5, none⟩ (.bool true)) = V := ⟨_, rfl⟩
  rw [hV] at M2 I2 S3 ⊢
  have e0 := M2.cell 0
  have e1 := M2.cell 1
  have e2 := M2.cell 2
  have e3 := M2.cell 3
  have e4 := M2.cell 4
  have e5 := M2.cell 5
  simp at e0 e1 e2 e3 e4 e5
  refine bodyPost_ret (v := .tuple #[accV 4 cell i x s true, .int .i64 0]) ((results_cell_tmp rfl _ _ _).trans (by simp [go_sem, e0, e1, e2, e3, e4, e5])) rfl ⟨rfl, I2, S3⟩
set_option maxRecDepth 100000 in
theorem m_swap (lo hi : Nat) (w : World) (b : Nat) (A : Int → List Int) (h : Is lo hi w b A) (cell : Int) (hk : 1 ≤ cell ∧ cell ≤ 8) (i : Nat) (hlt : i < (A cell).length) (x : Int) (hx : (A cell).getD i 0 = x) (o v p : Int) (d : Bool) (hp : Hid (p = if x = o then v else x)) (hd : Hid (d = decide (x = o))) : Calls Try.prog 67 #[.pointer (some ⟨b, 0, none⟩), .int .i64 cell, .int .i64 i, .int .u64 o, .int .u64 v] w fun e w' => Does lo hi w b (upd A cell i p) (accV 3 cell i x p d) 0 e w' := by
  obtain ⟨bm, g, h⟩ := h
  have B0 : Below w.heap.size w (((w.alloc (.cells #[.int .u64 o] 29)).alloc (.cells #[.int .u64 v] 29)).alloc (.cells #[.int .i64 0, .int .i64 0, .int .i64 0, .int .u64 0, .int .u64 0, .bool false] 62)) := below_new3 w _ _ _
  have M0 : Mem (((w.alloc (.cells #[.int .u64 o] 29)).alloc (.cells #[.int .u64 v] 29)).alloc (.cells #[.int .i64 0, .int .i64 0, .int .i64 0, .int .u64 0, .int .u64 0, .bool false] 62)) (w.heap.size + 2) 62 #[.int .i64 0, .int .i64 0, .int .i64 0, .int .u64 0, .int .u64 0, .bool false] := mem_new2 w _ _ _ _
  have SZ : (((w.alloc (.cells #[.int .u64 o] 29)).alloc (.cells #[.int .u64 v] 29)).alloc (.cells #[.int .i64 0, .int .i64 0, .int .i64 0, .int .u64 0, .int .u64 0, .bool false] 62)).heap.size = w.heap.size + 3 := by rw [size_new, size_new, size_new]
  have C0 : (((w.alloc (.cells #[.int .u64 o] 29)).alloc (.cells #[.int .u64 v] 29)).alloc (.cells #[.int .i64 0, .int .i64 0, .int .i64 0, .int .u64 0, .int .u64 0, .bool false] 62)).cell? ⟨w.heap.size, 0, none⟩ = some (.int .u64 o) := Mem.cell (show Mem (((w.alloc (.cells #[.int .u64 o] 29)).alloc (.cells #[.int .u64 v] 29)).alloc (.cells #[.int .i64 0, .int .i64 0, .int .i64 0, .int .u64 0, .int .u64 0, .bool false] 62)) (w.heap.size) 29 #[.int .u64 o] from ((Mem.new w _ _).alloc _).alloc _) 0
  have C1 : (((w.alloc (.cells #[.int .u64 o] 29)).alloc (.cells #[.int .u64 v] 29)).alloc (.cells #[.int .i64 0, .int .i64 0, .int .i64 0, .int .u64 0, .int .u64 0, .bool false] 62)).cell? ⟨w.heap.size + 1, 0, none⟩ = some (.int .u64 v) := Mem.cell (show Mem (((w.alloc (.cells #[.int .u64 o] 29)).alloc (.cells #[.int .u64 v] 29)).alloc (.cells #[.int .i64 0, .int .i64 0, .int .i64 0, .int .u64 0, .int .u64 0, .bool false] 62)) (w.heap.size + 1) 29 #[.int .u64 v] from (mem_new1 w _ _ _).alloc _) 0
  have H0 : Cells lo hi (((w.alloc (.cells #[.int .u64 o] 29)).alloc (.cells #[.int .u64 v] 29)).alloc (.cells #[.int .i64 0, .int .i64 0, .int .i64 0, .int .u64 0, .int .u64 0, .bool false] 62)) b A bm g := h.below B0
  have htop := h.top
  obtain ⟨W, hW⟩ : ∃ W, (((w.alloc (.cells #[.int .u64 o] 29)).alloc (.cells #[.int .u64 v] 29)).alloc (.cells #[.int .i64 0, .int .i64 0, .int .i64 0, .int .u64 0, .int .u64 0, .bool false] 62)) = W := ⟨_, rfl⟩
  rw [hW] at B0 M0 SZ C0 C1 H0
  go_enter Try.func67, Try.ntmps67
  go_upto_region 1 with (fail)
  try rw [hW]
  clear hW
  go_wp2_with (go_at_call 102; (with_reducible refine (p_swap lo hi _ b bm g A H0 cell hk i hlt x hx o v p d hp hd ⟨w.heap.size, 0, none⟩ ⟨w.heap.size + 1, 0, none⟩ C0 C1 ⟨htop, by show w.heap.size < W.heap.size; omega⟩ ⟨by show hi ≤ w.heap.size + 1; omega, by show w.heap.size + 1 < W.heap.size; omega⟩).mono ?_); rintro e w1 ⟨rfl, hIs, hSt⟩; have M1 : Mem w1 (w.heap.size + 2) 62 #[.int .i64 0, .int .i64 0, .int .i64 0, .int .u64 0, .int .u64 0, .bool false] := (hSt.block (w.heap.size + 2) (by omega) (.inr (by omega))).trans M0; have HI := Lib.hid hIs; have HS := Lib.hid hSt; clear hIs hSt M0; have d0 := M1.cell 0; have d1 := M1.cell 1; have d2 := M1.cell 2; have d3 := M1.cell 3; have d4 := M1.cell 4; have d5 := M1.cell 5; have df := M1.frozen)
  obtain ⟨M2, S2⟩ := store6 M1 (.int .i64 3) (.int .i64 cell) (.int .i64 i) (.int .u64 x) (.int .u64 p) (.bool d)
  have I2 := HI.out.stay S2 (.inl (by omega))
  have S3 := Stay.over ((Stay.of_below (lo := lo) (hi := hi) B0).trans HS.out) S2 (by omega)
  obtain ⟨V, hV⟩ : ∃ V, ((((((w1.setCell ⟨w.heap.size + 2, 0, none⟩ (.int .i64 3)).setCell ⟨w.heap.size + 2, 1, none⟩ (.int .i64 cell)).setCell ⟨w.heap.size + 2, 2, none⟩ (.int .i64 i)).setCell ⟨w.heap.size + 2, 3, none⟩ (.int .u64 x)).setCell ⟨w.heap.size + 2, 4, none⟩ (.int .u64 p)).setCell ⟨w.heap.size + 2, 5, none⟩ (.bool d)) = V := ⟨_, rfl⟩
  rw [hV] at M2 I2 S3 ⊢
  have e0 := M2.cell 0
  have e1 := M2.cell 1
  have e2 := M2.cell 2
  have e3 := M2.cell 3
  have e4 := M2.cell 4
  have e5 := M2.cell 5
  simp at e0 e1 e2 e3 e4 e5
  refine bodyPost_ret (v := .tuple #[accV 3 cell i x p d, .int .i64 0]) ((results_cell_tmp rfl _ _ _).trans (by simp [go_sem, e0, e1, e2, e3, e4, e5])) rfl ⟨rfl, I2, S3⟩
set_option maxRecDepth 100000 in
theorem m_load_none (lo hi : Nat) (w : World) (b : Nat) (A : Int → List Int) (h : Is lo hi w b A) (cell ix : Int) (hno : ¬ (0 ≤ ix ∧ ix < (A cell).length)) : Calls Try.prog 70 #[.pointer (some ⟨b, 0, none⟩), .int .i64 cell, .int .i64 ix] w fun e w' => Does lo hi w b A (accV 0 0 0 0 0 false) 60 e w' := by
  obtain ⟨bm, g, h⟩ := h
  have B0 : Below w.heap.size w (w.alloc (.cells #[.int .i64 0, .int .i64 0, .int .i64 0, .int .u64 0, .int .u64 0, .bool false] 62)) := below_new w _
  have M0 : Mem (w.alloc (.cells #[.int .i64 0, .int .i64 0, .int .i64 0, .int .u64 0, .int .u64 0, .bool false] 62)) (w.heap.size) 62 #[.int .i64 0, .int .i64 0, .int .i64 0, .int .u64 0, .int .u64 0, .bool false] := Mem.new w _ _
  have SZ : (w.alloc (.cells #[.int .i64 0, .int .i64 0, .int .i64 0, .int .u64 0, .int .u64 0, .bool false] 62)).heap.size = w.heap.size + 1 := by rw [size_new]
  have H0 : Cells lo hi (w.alloc (.cells #[.int .i64 0, .int .i64 0, .int .i64 0, .int .u64 0, .int .u64 0, .bool false] 62)) b A bm g := h.below B0
  have htop := h.top
  obtain ⟨W, hW⟩ : ∃ W, (w.alloc (.cells #[.int .i64 0, .int .i64 0, .int .i64 0, .int .u64 0, .int .u64 0, .bool false] 62)) = W := ⟨_, rfl⟩
  rw [hW] at B0 M0 SZ H0
  go_enter Try.func70, Try.ntmps70
  go_upto_region 1 with (fail)
  try rw [hW]
  clear hW
  go_wp2_with (go_at_call 102; (with_reducible refine (p_none lo hi _ b bm g A H0 _ cell ix hno _).mono ?_); rintro e w1 ⟨rfl, hIs, hSt⟩; have M1 : Mem w1 (w.heap.size) 62 #[.int .i64 0, .int .i64 0, .int .i64 0, .int .u64 0, .int .u64 0, .bool false] := (hSt.block (w.heap.size) (by omega) (.inr (by omega))).trans M0; have HI := Lib.hid hIs; have HS := Lib.hid hSt; clear hIs hSt M0; have d0 := M1.cell 0; have d1 := M1.cell 1; have d2 := M1.cell 2; have d3 := M1.cell 3; have d4 := M1.cell 4; have d5 := M1.cell 5; have df := M1.frozen)
  obtain ⟨M2, S2⟩ := store6 M1 (.int .i64 0) (.int .i64 0) (.int .i64 0) (.int .u64 0) (.int .u64 0) (.bool false)
  have I2 := HI.out.stay S2 (.inl (by omega))
  have S3 := Stay.over ((Stay.of_below (lo := lo) (hi := hi) B0).trans HS.out) S2 (by omega)
  obtain ⟨V, hV⟩ : ∃ V, ((((((w1.setCell ⟨w.heap.size, 0, none⟩ (.int .i64 0)).setCell ⟨w.heap.size, 1, none⟩ (.int .i64 0)).setCell ⟨w.heap.size, 2, none⟩ (.int .i64 0)).setCell ⟨w.heap.size, 3, none⟩ (.int .u64 0)).setCell ⟨w.heap.size, 4, none⟩ (.int .u64 0)).setCell ⟨w.heap.size, 5, none⟩ (.bool false)) = V := ⟨_, rfl⟩
  rw [hV] at M2 I2 S3 ⊢
  have e0 := M2.cell 0
  have e1 := M2.cell 1
  have e2 := M2.cell 2
  have e3 := M2.cell 3
  have e4 := M2.cell 4
  have e5 := M2.cell 5
  simp at e0 e1 e2 e3 e4 e5
  refine bodyPost_ret (v := .tuple #[accV 0 0 0 0 0 false, .int .i64 60]) ((results_cell_tmp rfl _ _ _).trans (by simp [go_sem, e0, e1, e2, e3, e4, e5])) rfl ⟨rfl, I2, S3⟩
set_option maxRecDepth 100000 in
theorem m_store_none (lo hi : Nat) (w : World) (b : Nat) (A : Int → List Int) (h : Is lo hi w b A) (cell ix : Int) (hno : ¬ (0 ≤ ix ∧ ix < (A cell).length)) (v : Int) : Calls Try.prog 72 #[.pointer (some ⟨b, 0, none⟩), .int .i64 cell, .int .i64 ix, .int .u64 v] w fun e w' => Does lo hi w b A (accV 0 0 0 0 0 false) 60 e w' := by
  obtain ⟨bm, g, h⟩ := h
  have B0 : Below w.heap.size w ((w.alloc (.cells #[.int .u64 v] 29)).alloc (.cells #[.int .i64 0, .int .i64 0, .int .i64 0, .int .u64 0, .int .u64 0, .bool false] 62)) := below_new2 w _ _
  have M0 : Mem ((w.alloc (.cells #[.int .u64 v] 29)).alloc (.cells #[.int .i64 0, .int .i64 0, .int .i64 0, .int .u64 0, .int .u64 0, .bool false] 62)) (w.heap.size + 1) 62 #[.int .i64 0, .int .i64 0, .int .i64 0, .int .u64 0, .int .u64 0, .bool false] := mem_new1 w _ _ _
  have SZ : ((w.alloc (.cells #[.int .u64 v] 29)).alloc (.cells #[.int .i64 0, .int .i64 0, .int .i64 0, .int .u64 0, .int .u64 0, .bool false] 62)).heap.size = w.heap.size + 2 := by rw [size_new, size_new]
  have C0 : ((w.alloc (.cells #[.int .u64 v] 29)).alloc (.cells #[.int .i64 0, .int .i64 0, .int .i64 0, .int .u64 0, .int .u64 0, .bool false] 62)).cell? ⟨w.heap.size, 0, none⟩ = some (.int .u64 v) := Mem.cell (show Mem ((w.alloc (.cells #[.int .u64 v] 29)).alloc (.cells #[.int .i64 0, .int .i64 0, .int .i64 0, .int .u64 0, .int .u64 0, .bool false] 62)) (w.heap.size) 29 #[.int .u64 v] from (Mem.new w _ _).alloc _) 0
  have H0 : Cells lo hi ((w.alloc (.cells #[.int .u64 v] 29)).alloc (.cells #[.int .i64 0, .int .i64 0, .int .i64 0, .int .u64 0, .int .u64 0, .bool false] 62)) b A bm g := h.below B0
  have htop := h.top
  obtain ⟨W, hW⟩ : ∃ W, ((w.alloc (.cells #[.int .u64 v] 29)).alloc (.cells #[.int .i64 0, .int .i64 0, .int .i64 0, .int .u64 0, .int .u64 0, .bool false] 62)) = W := ⟨_, rfl⟩
  rw [hW] at B0 M0 SZ C0 H0
  go_enter Try.func72, Try.ntmps72
  go_upto_region 1 with (fail)
  try rw [hW]
  clear hW
  go_wp2_with (go_at_call 102; (with_reducible refine (p_none lo hi _ b bm g A H0 _ cell ix hno _).mono ?_); rintro e w1 ⟨rfl, hIs, hSt⟩; have M1 : Mem w1 (w.heap.size + 1) 62 #[.int .i64 0, .int .i64 0, .int .i64 0, .int .u64 0, .int .u64 0, .bool false] := (hSt.block (w.heap.size + 1) (by omega) (.inr (by omega))).trans M0; have HI := Lib.hid hIs; have HS := Lib.hid hSt; clear hIs hSt M0; have d0 := M1.cell 0; have d1 := M1.cell 1; have d2 := M1.cell 2; have d3 := M1.cell 3; have d4 := M1.cell 4; have d5 := M1.cell 5; have df := M1.frozen)
  obtain ⟨M2, S2⟩ := store6 M1 (.int .i64 0) (.int .i64 0) (.int .i64 0) (.int .u64 0) (.int .u64 0) (.bool false)
  have I2 := HI.out.stay S2 (.inl (by omega))
  have S3 := Stay.over ((Stay.of_below (lo := lo) (hi := hi) B0).trans HS.out) S2 (by omega)
  obtain ⟨V, hV⟩ : ∃ V, ((((((w1.setCell ⟨w.heap.size + 1, 0, none⟩ (.int .i64 0)).setCell ⟨w.heap.size + 1, 1, none⟩ (.int .i64 0)).setCell ⟨w.heap.size + 1, 2, none⟩ (.int .i64 0)).setCell ⟨w.heap.size + 1, 3, none⟩ (.int .u64 0)).setCell ⟨w.heap.size + 1, 4, none⟩ (.int .u64 0)).setCell ⟨w.heap.size + 1, 5, none⟩ (.bool false)) = V := ⟨_, rfl⟩
  rw [hV] at M2 I2 S3 ⊢
  have e0 := M2.cell 0
  have e1 := M2.cell 1
  have e2 := M2.cell 2
  have e3 := M2.cell 3
  have e4 := M2.cell 4
  have e5 := M2.cell 5
  simp at e0 e1 e2 e3 e4 e5
  refine bodyPost_ret (v := .tuple #[accV 0 0 0 0 0 false, .int .i64 60]) ((results_cell_tmp rfl _ _ _).trans (by simp [go_sem, e0, e1, e2, e3, e4, e5])) rfl ⟨rfl, I2, S3⟩
set_option maxRecDepth 100000 in
theorem m_add_none (lo hi : Nat) (w : World) (b : Nat) (A : Int → List Int) (h : Is lo hi w b A) (cell ix : Int) (hno : ¬ (0 ≤ ix ∧ ix < (A cell).length)) (v : Int) : Calls Try.prog 66 #[.pointer (some ⟨b, 0, none⟩), .int .i64 cell, .int .i64 ix, .int .u64 v] w fun e w' => Does lo hi w b A (accV 0 0 0 0 0 false) 60 e w' := by
  obtain ⟨bm, g, h⟩ := h
  have B0 : Below w.heap.size w ((w.alloc (.cells #[.int .u64 v] 29)).alloc (.cells #[.int .i64 0, .int .i64 0, .int .i64 0, .int .u64 0, .int .u64 0, .bool false] 62)) := below_new2 w _ _
  have M0 : Mem ((w.alloc (.cells #[.int .u64 v] 29)).alloc (.cells #[.int .i64 0, .int .i64 0, .int .i64 0, .int .u64 0, .int .u64 0, .bool false] 62)) (w.heap.size + 1) 62 #[.int .i64 0, .int .i64 0, .int .i64 0, .int .u64 0, .int .u64 0, .bool false] := mem_new1 w _ _ _
  have SZ : ((w.alloc (.cells #[.int .u64 v] 29)).alloc (.cells #[.int .i64 0, .int .i64 0, .int .i64 0, .int .u64 0, .int .u64 0, .bool false] 62)).heap.size = w.heap.size + 2 := by rw [size_new, size_new]
  have C0 : ((w.alloc (.cells #[.int .u64 v] 29)).alloc (.cells #[.int .i64 0, .int .i64 0, .int .i64 0, .int .u64 0, .int .u64 0, .bool false] 62)).cell? ⟨w.heap.size, 0, none⟩ = some (.int .u64 v) := Mem.cell (show Mem ((w.alloc (.cells #[.int .u64 v] 29)).alloc (.cells #[.int .i64 0, .int .i64 0, .int .i64 0, .int .u64 0, .int .u64 0, .bool false] 62)) (w.heap.size) 29 #[.int .u64 v] from (Mem.new w _ _).alloc _) 0
  have H0 : Cells lo hi ((w.alloc (.cells #[.int .u64 v] 29)).alloc (.cells #[.int .i64 0, .int .i64 0, .int .i64 0, .int .u64 0, .int .u64 0, .bool false] 62)) b A bm g := h.below B0
  have htop := h.top
  obtain ⟨W, hW⟩ : ∃ W, ((w.alloc (.cells #[.int .u64 v] 29)).alloc (.cells #[.int .i64 0, .int .i64 0, .int .i64 0, .int .u64 0, .int .u64 0, .bool false] 62)) = W := ⟨_, rfl⟩
  rw [hW] at B0 M0 SZ C0 H0
  go_enter Try.func66, Try.ntmps66
  go_upto_region 1 with (fail)
  try rw [hW]
  clear hW
  go_wp2_with (go_at_call 102; (with_reducible refine (p_none lo hi _ b bm g A H0 _ cell ix hno _).mono ?_); rintro e w1 ⟨rfl, hIs, hSt⟩; have M1 : Mem w1 (w.heap.size + 1) 62 #[.int .i64 0, .int .i64 0, .int .i64 0, .int .u64 0, .int .u64 0, .bool false] := (hSt.block (w.heap.size + 1) (by omega) (.inr (by omega))).trans M0; have HI := Lib.hid hIs; have HS := Lib.hid hSt; clear hIs hSt M0; have d0 := M1.cell 0; have d1 := M1.cell 1; have d2 := M1.cell 2; have d3 := M1.cell 3; have d4 := M1.cell 4; have d5 := M1.cell 5; have df := M1.frozen)
  obtain ⟨M2, S2⟩ := store6 M1 (.int .i64 0) (.int .i64 0) (.int .i64 0) (.int .u64 0) (.int .u64 0) (.bool false)
  have I2 := HI.out.stay S2 (.inl (by omega))
  have S3 := Stay.over ((Stay.of_below (lo := lo) (hi := hi) B0).trans HS.out) S2 (by omega)
  obtain ⟨V, hV⟩ : ∃ V, ((((((w1.setCell ⟨w.heap.size + 1, 0, none⟩ (.int .i64 0)).setCell ⟨w.heap.size + 1, 1, none⟩ (.int .i64 0)).setCell ⟨w.heap.size + 1, 2, none⟩ (.int .i64 0)).setCell ⟨w.heap.size + 1, 3, none⟩ (.int .u64 0)).setCell ⟨w.heap.size + 1, 4, none⟩ (.int .u64 0)).setCell ⟨w.heap.size + 1, 5, none⟩ (.bool false)) = V := ⟨_, rfl⟩
  rw [hV] at M2 I2 S3 ⊢
  have e0 := M2.cell 0
  have e1 := M2.cell 1
  have e2 := M2.cell 2
  have e3 := M2.cell 3
  have e4 := M2.cell 4
  have e5 := M2.cell 5
  simp at e0 e1 e2 e3 e4 e5
  refine bodyPost_ret (v := .tuple #[accV 0 0 0 0 0 false, .int .i64 60]) ((results_cell_tmp rfl _ _ _).trans (by simp [go_sem, e0, e1, e2, e3, e4, e5])) rfl ⟨rfl, I2, S3⟩
set_option maxRecDepth 100000 in
theorem m_swap_none (lo hi : Nat) (w : World) (b : Nat) (A : Int → List Int) (h : Is lo hi w b A) (cell ix : Int) (hno : ¬ (0 ≤ ix ∧ ix < (A cell).length)) (o v : Int) : Calls Try.prog 67 #[.pointer (some ⟨b, 0, none⟩), .int .i64 cell, .int .i64 ix, .int .u64 o, .int .u64 v] w fun e w' => Does lo hi w b A (accV 0 0 0 0 0 false) 60 e w' := by
  obtain ⟨bm, g, h⟩ := h
  have B0 : Below w.heap.size w (((w.alloc (.cells #[.int .u64 o] 29)).alloc (.cells #[.int .u64 v] 29)).alloc (.cells #[.int .i64 0, .int .i64 0, .int .i64 0, .int .u64 0, .int .u64 0, .bool false] 62)) := below_new3 w _ _ _
  have M0 : Mem (((w.alloc (.cells #[.int .u64 o] 29)).alloc (.cells #[.int .u64 v] 29)).alloc (.cells #[.int .i64 0, .int .i64 0, .int .i64 0, .int .u64 0, .int .u64 0, .bool false] 62)) (w.heap.size + 2) 62 #[.int .i64 0, .int .i64 0, .int .i64 0, .int .u64 0, .int .u64 0, .bool false] := mem_new2 w _ _ _ _
  have SZ : (((w.alloc (.cells #[.int .u64 o] 29)).alloc (.cells #[.int .u64 v] 29)).alloc (.cells #[.int .i64 0, .int .i64 0, .int .i64 0, .int .u64 0, .int .u64 0, .bool false] 62)).heap.size = w.heap.size + 3 := by rw [size_new, size_new, size_new]
  have C0 : (((w.alloc (.cells #[.int .u64 o] 29)).alloc (.cells #[.int .u64 v] 29)).alloc (.cells #[.int .i64 0, .int .i64 0, .int .i64 0, .int .u64 0, .int .u64 0, .bool false] 62)).cell? ⟨w.heap.size, 0, none⟩ = some (.int .u64 o) := Mem.cell (show Mem (((w.alloc (.cells #[.int .u64 o] 29)).alloc (.cells #[.int .u64 v] 29)).alloc (.cells #[.int .i64 0, .int .i64 0, .int .i64 0, .int .u64 0, .int .u64 0, .bool false] 62)) (w.heap.size) 29 #[.int .u64 o] from ((Mem.new w _ _).alloc _).alloc _) 0
  have C1 : (((w.alloc (.cells #[.int .u64 o] 29)).alloc (.cells #[.int .u64 v] 29)).alloc (.cells #[.int .i64 0, .int .i64 0, .int .i64 0, .int .u64 0, .int .u64 0, .bool false] 62)).cell? ⟨w.heap.size + 1, 0, none⟩ = some (.int .u64 v) := Mem.cell (show Mem (((w.alloc (.cells #[.int .u64 o] 29)).alloc (.cells #[.int .u64 v] 29)).alloc (.cells #[.int .i64 0, .int .i64 0, .int .i64 0, .int .u64 0, .int .u64 0, .bool false] 62)) (w.heap.size + 1) 29 #[.int .u64 v] from (mem_new1 w _ _ _).alloc _) 0
  have H0 : Cells lo hi (((w.alloc (.cells #[.int .u64 o] 29)).alloc (.cells #[.int .u64 v] 29)).alloc (.cells #[.int .i64 0, .int .i64 0, .int .i64 0, .int .u64 0, .int .u64 0, .bool false] 62)) b A bm g := h.below B0
  have htop := h.top
  obtain ⟨W, hW⟩ : ∃ W, (((w.alloc (.cells #[.int .u64 o] 29)).alloc (.cells #[.int .u64 v] 29)).alloc (.cells #[.int .i64 0, .int .i64 0, .int .i64 0, .int .u64 0, .int .u64 0, .bool false] 62)) = W := ⟨_, rfl⟩
  rw [hW] at B0 M0 SZ C0 C1 H0
  go_enter Try.func67, Try.ntmps67
  go_upto_region 1 with (fail)
  try rw [hW]
  clear hW
  go_wp2_with (go_at_call 102; (with_reducible refine (p_none lo hi _ b bm g A H0 _ cell ix hno _).mono ?_); rintro e w1 ⟨rfl, hIs, hSt⟩; have M1 : Mem w1 (w.heap.size + 2) 62 #[.int .i64 0, .int .i64 0, .int .i64 0, .int .u64 0, .int .u64 0, .bool false] := (hSt.block (w.heap.size + 2) (by omega) (.inr (by omega))).trans M0; have HI := Lib.hid hIs; have HS := Lib.hid hSt; clear hIs hSt M0; have d0 := M1.cell 0; have d1 := M1.cell 1; have d2 := M1.cell 2; have d3 := M1.cell 3; have d4 := M1.cell 4; have d5 := M1.cell 5; have df := M1.frozen)
  obtain ⟨M2, S2⟩ := store6 M1 (.int .i64 0) (.int .i64 0) (.int .i64 0) (.int .u64 0) (.int .u64 0) (.bool false)
  have I2 := HI.out.stay S2 (.inl (by omega))
  have S3 := Stay.over ((Stay.of_below (lo := lo) (hi := hi) B0).trans HS.out) S2 (by omega)
  obtain ⟨V, hV⟩ : ∃ V, ((((((w1.setCell ⟨w.heap.size + 2, 0, none⟩ (.int .i64 0)).setCell ⟨w.heap.size + 2, 1, none⟩ (.int .i64 0)).setCell ⟨w.heap.size + 2, 2, none⟩ (.int .i64 0)).setCell ⟨w.heap.size + 2, 3, none⟩ (.int .u64 0)).setCell ⟨w.heap.size + 2, 4, none⟩ (.int .u64 0)).setCell ⟨w.heap.size + 2, 5, none⟩ (.bool false)) = V := ⟨_, rfl⟩
  rw [hV] at M2 I2 S3 ⊢
  have e0 := M2.cell 0
  have e1 := M2.cell 1
  have e2 := M2.cell 2
  have e3 := M2.cell 3
  have e4 := M2.cell 4
  have e5 := M2.cell 5
  simp at e0 e1 e2 e3 e4 e5
  refine bodyPost_ret (v := .tuple #[accV 0 0 0 0 0 false, .int .i64 60]) ((results_cell_tmp rfl _ _ _).trans (by simp [go_sem, e0, e1, e2, e3, e4, e5])) rfl ⟨rfl, I2, S3⟩
set_option maxRecDepth 100000 in
theorem m_load_nil (w : World) (cell ix : Int) : Calls Try.prog 70 #[.pointer none, .int .i64 cell, .int .i64 ix] w fun e w' => e = .returned (.tuple #[accV 0 0 0 0 0 false, .int .i64 1]) ∧ Below w.heap.size w w' := by
  have B0 : Below w.heap.size w (w.alloc (.cells #[.int .i64 0, .int .i64 0, .int .i64 0, .int .u64 0, .int .u64 0, .bool false] 62)) := below_new w _
  have M0 : Mem (w.alloc (.cells #[.int .i64 0, .int .i64 0, .int .i64 0, .int .u64 0, .int .u64 0, .bool false] 62)) (w.heap.size) 62 #[.int .i64 0, .int .i64 0, .int .i64 0, .int .u64 0, .int .u64 0, .bool false] := Mem.new w _ _
  have SZ : (w.alloc (.cells #[.int .i64 0, .int .i64 0, .int .i64 0, .int .u64 0, .int .u64 0, .bool false] 62)).heap.size = w.heap.size + 1 := by rw [size_new]
  obtain ⟨W, hW⟩ : ∃ W, (w.alloc (.cells #[.int .i64 0, .int .i64 0, .int .i64 0, .int .u64 0, .int .u64 0, .bool false] 62)) = W := ⟨_, rfl⟩
  rw [hW] at B0 M0 SZ
  go_enter Try.func70, Try.ntmps70
  go_upto_region 1 with (fail)
  try rw [hW]
  clear hW
  go_wp2_with (go_at_call 102; (with_reducible refine (p_nil _ _ _ _ _).mono ?_); rintro e w1 ⟨rfl, hb1⟩; have M1 := M0.below hb1 M0.lt; have HB := Lib.hid (B0.trans (hb1.mono B0.size)); have HZ := Lib.hid hb1.size; clear hb1 M0 B0; have d0 := M1.cell 0; have d1 := M1.cell 1; have d2 := M1.cell 2; have d3 := M1.cell 3; have d4 := M1.cell 4; have d5 := M1.cell 5; have df := M1.frozen)
  obtain ⟨M2, S2⟩ := store6 M1 (.int .i64 0) (.int .i64 0) (.int .i64 0) (.int .u64 0) (.int .u64 0) (.bool false)
  have B2 := HB.out.trans (S2.below (B := w.heap.size) (by omega) (by have := HZ.out; omega))
  obtain ⟨V, hV⟩ : ∃ V, ((((((w1.setCell ⟨w.heap.size, 0, none⟩ (.int .i64 0)).setCell ⟨w.heap.size, 1, none⟩ (.int .i64 0)).setCell ⟨w.heap.size, 2, none⟩ (.int .i64 0)).setCell ⟨w.heap.size, 3, none⟩ (.int .u64 0)).setCell ⟨w.heap.size, 4, none⟩ (.int .u64 0)).setCell ⟨w.heap.size, 5, none⟩ (.bool false)) = V := ⟨_, rfl⟩
  rw [hV] at M2 B2 ⊢
  have e0 := M2.cell 0
  have e1 := M2.cell 1
  have e2 := M2.cell 2
  have e3 := M2.cell 3
  have e4 := M2.cell 4
  have e5 := M2.cell 5
  simp at e0 e1 e2 e3 e4 e5
  refine bodyPost_ret (v := .tuple #[accV 0 0 0 0 0 false, .int .i64 1]) ((results_cell_tmp rfl _ _ _).trans (by simp [go_sem, e0, e1, e2, e3, e4, e5])) rfl ⟨rfl, B2⟩
set_option maxRecDepth 100000 in
theorem m_store_nil (w : World) (cell ix : Int) (v : Int) : Calls Try.prog 72 #[.pointer none, .int .i64 cell, .int .i64 ix, .int .u64 v] w fun e w' => e = .returned (.tuple #[accV 0 0 0 0 0 false, .int .i64 1]) ∧ Below w.heap.size w w' := by
  have B0 : Below w.heap.size w ((w.alloc (.cells #[.int .u64 v] 29)).alloc (.cells #[.int .i64 0, .int .i64 0, .int .i64 0, .int .u64 0, .int .u64 0, .bool false] 62)) := below_new2 w _ _
  have M0 : Mem ((w.alloc (.cells #[.int .u64 v] 29)).alloc (.cells #[.int .i64 0, .int .i64 0, .int .i64 0, .int .u64 0, .int .u64 0, .bool false] 62)) (w.heap.size + 1) 62 #[.int .i64 0, .int .i64 0, .int .i64 0, .int .u64 0, .int .u64 0, .bool false] := mem_new1 w _ _ _
  have SZ : ((w.alloc (.cells #[.int .u64 v] 29)).alloc (.cells #[.int .i64 0, .int .i64 0, .int .i64 0, .int .u64 0, .int .u64 0, .bool false] 62)).heap.size = w.heap.size + 2 := by rw [size_new, size_new]
  have C0 : ((w.alloc (.cells #[.int .u64 v] 29)).alloc (.cells #[.int .i64 0, .int .i64 0, .int .i64 0, .int .u64 0, .int .u64 0, .bool false] 62)).cell? ⟨w.heap.size, 0, none⟩ = some (.int .u64 v) := Mem.cell (show Mem ((w.alloc (.cells #[.int .u64 v] 29)).alloc (.cells #[.int .i64 0, .int .i64 0, .int .i64 0, .int .u64 0, .int .u64 0, .bool false] 62)) (w.heap.size) 29 #[.int .u64 v] from (Mem.new w _ _).alloc _) 0
  obtain ⟨W, hW⟩ : ∃ W, ((w.alloc (.cells #[.int .u64 v] 29)).alloc (.cells #[.int .i64 0, .int .i64 0, .int .i64 0, .int .u64 0, .int .u64 0, .bool false] 62)) = W := ⟨_, rfl⟩
  rw [hW] at B0 M0 SZ C0
  go_enter Try.func72, Try.ntmps72
  go_upto_region 1 with (fail)
  try rw [hW]
  clear hW
  go_wp2_with (go_at_call 102; (with_reducible refine (p_nil _ _ _ _ _).mono ?_); rintro e w1 ⟨rfl, hb1⟩; have M1 := M0.below hb1 M0.lt; have HB := Lib.hid (B0.trans (hb1.mono B0.size)); have HZ := Lib.hid hb1.size; clear hb1 M0 B0; have d0 := M1.cell 0; have d1 := M1.cell 1; have d2 := M1.cell 2; have d3 := M1.cell 3; have d4 := M1.cell 4; have d5 := M1.cell 5; have df := M1.frozen)
  obtain ⟨M2, S2⟩ := store6 M1 (.int .i64 0) (.int .i64 0) (.int .i64 0) (.int .u64 0) (.int .u64 0) (.bool false)
  have B2 := HB.out.trans (S2.below (B := w.heap.size) (by omega) (by have := HZ.out; omega))
  obtain ⟨V, hV⟩ : ∃ V, ((((((w1.setCell ⟨w.heap.size + 1, 0, none⟩ (.int .i64 0)).setCell ⟨w.heap.size + 1, 1, none⟩ (.int .i64 0)).setCell ⟨w.heap.size + 1, 2, none⟩ (.int .i64 0)).setCell ⟨w.heap.size + 1, 3, none⟩ (.int .u64 0)).setCell ⟨w.heap.size + 1, 4, none⟩ (.int .u64 0)).setCell ⟨w.heap.size + 1, 5, none⟩ (.bool false)) = V := ⟨_, rfl⟩
  rw [hV] at M2 B2 ⊢
  have e0 := M2.cell 0
  have e1 := M2.cell 1
  have e2 := M2.cell 2
  have e3 := M2.cell 3
  have e4 := M2.cell 4
  have e5 := M2.cell 5
  simp at e0 e1 e2 e3 e4 e5
  refine bodyPost_ret (v := .tuple #[accV 0 0 0 0 0 false, .int .i64 1]) ((results_cell_tmp rfl _ _ _).trans (by simp [go_sem, e0, e1, e2, e3, e4, e5])) rfl ⟨rfl, B2⟩
set_option maxRecDepth 100000 in
theorem m_add_nil (w : World) (cell ix : Int) (v : Int) : Calls Try.prog 66 #[.pointer none, .int .i64 cell, .int .i64 ix, .int .u64 v] w fun e w' => e = .returned (.tuple #[accV 0 0 0 0 0 false, .int .i64 1]) ∧ Below w.heap.size w w' := by
  have B0 : Below w.heap.size w ((w.alloc (.cells #[.int .u64 v] 29)).alloc (.cells #[.int .i64 0, .int .i64 0, .int .i64 0, .int .u64 0, .int .u64 0, .bool false] 62)) := below_new2 w _ _
  have M0 : Mem ((w.alloc (.cells #[.int .u64 v] 29)).alloc (.cells #[.int .i64 0, .int .i64 0, .int .i64 0, .int .u64 0, .int .u64 0, .bool false] 62)) (w.heap.size + 1) 62 #[.int .i64 0, .int .i64 0, .int .i64 0, .int .u64 0, .int .u64 0, .bool false] := mem_new1 w _ _ _
  have SZ : ((w.alloc (.cells #[.int .u64 v] 29)).alloc (.cells #[.int .i64 0, .int .i64 0, .int .i64 0, .int .u64 0, .int .u64 0, .bool false] 62)).heap.size = w.heap.size + 2 := by rw [size_new, size_new]
  have C0 : ((w.alloc (.cells #[.int .u64 v] 29)).alloc (.cells #[.int .i64 0, .int .i64 0, .int .i64 0, .int .u64 0, .int .u64 0, .bool false] 62)).cell? ⟨w.heap.size, 0, none⟩ = some (.int .u64 v) := Mem.cell (show Mem ((w.alloc (.cells #[.int .u64 v] 29)).alloc (.cells #[.int .i64 0, .int .i64 0, .int .i64 0, .int .u64 0, .int .u64 0, .bool false] 62)) (w.heap.size) 29 #[.int .u64 v] from (Mem.new w _ _).alloc _) 0
  obtain ⟨W, hW⟩ : ∃ W, ((w.alloc (.cells #[.int .u64 v] 29)).alloc (.cells #[.int .i64 0, .int .i64 0, .int .i64 0, .int .u64 0, .int .u64 0, .bool false] 62)) = W := ⟨_, rfl⟩
  rw [hW] at B0 M0 SZ C0
  go_enter Try.func66, Try.ntmps66
  go_upto_region 1 with (fail)
  try rw [hW]
  clear hW
  go_wp2_with (go_at_call 102; (with_reducible refine (p_nil _ _ _ _ _).mono ?_); rintro e w1 ⟨rfl, hb1⟩; have M1 := M0.below hb1 M0.lt; have HB := Lib.hid (B0.trans (hb1.mono B0.size)); have HZ := Lib.hid hb1.size; clear hb1 M0 B0; have d0 := M1.cell 0; have d1 := M1.cell 1; have d2 := M1.cell 2; have d3 := M1.cell 3; have d4 := M1.cell 4; have d5 := M1.cell 5; have df := M1.frozen)
  obtain ⟨M2, S2⟩ := store6 M1 (.int .i64 0) (.int .i64 0) (.int .i64 0) (.int .u64 0) (.int .u64 0) (.bool false)
  have B2 := HB.out.trans (S2.below (B := w.heap.size) (by omega) (by have := HZ.out; omega))
  obtain ⟨V, hV⟩ : ∃ V, ((((((w1.setCell ⟨w.heap.size + 1, 0, none⟩ (.int .i64 0)).setCell ⟨w.heap.size + 1, 1, none⟩ (.int .i64 0)).setCell ⟨w.heap.size + 1, 2, none⟩ (.int .i64 0)).setCell ⟨w.heap.size + 1, 3, none⟩ (.int .u64 0)).setCell ⟨w.heap.size + 1, 4, none⟩ (.int .u64 0)).setCell ⟨w.heap.size + 1, 5, none⟩ (.bool false)) = V := ⟨_, rfl⟩
  rw [hV] at M2 B2 ⊢
  have e0 := M2.cell 0
  have e1 := M2.cell 1
  have e2 := M2.cell 2
  have e3 := M2.cell 3
  have e4 := M2.cell 4
  have e5 := M2.cell 5
  simp at e0 e1 e2 e3 e4 e5
  refine bodyPost_ret (v := .tuple #[accV 0 0 0 0 0 false, .int .i64 1]) ((results_cell_tmp rfl _ _ _).trans (by simp [go_sem, e0, e1, e2, e3, e4, e5])) rfl ⟨rfl, B2⟩
set_option maxRecDepth 100000 in
theorem m_swap_nil (w : World) (cell ix : Int) (o v : Int) : Calls Try.prog 67 #[.pointer none, .int .i64 cell, .int .i64 ix, .int .u64 o, .int .u64 v] w fun e w' => e = .returned (.tuple #[accV 0 0 0 0 0 false, .int .i64 1]) ∧ Below w.heap.size w w' := by
  have B0 : Below w.heap.size w (((w.alloc (.cells #[.int .u64 o] 29)).alloc (.cells #[.int .u64 v] 29)).alloc (.cells #[.int .i64 0, .int .i64 0, .int .i64 0, .int .u64 0, .int .u64 0, .bool false] 62)) := below_new3 w _ _ _
  have M0 : Mem (((w.alloc (.cells #[.int .u64 o] 29)).alloc (.cells #[.int .u64 v] 29)).alloc (.cells #[.int .i64 0, .int .i64 0, .int .i64 0, .int .u64 0, .int .u64 0, .bool false] 62)) (w.heap.size + 2) 62 #[.int .i64 0, .int .i64 0, .int .i64 0, .int .u64 0, .int .u64 0, .bool false] := mem_new2 w _ _ _ _
  have SZ : (((w.alloc (.cells #[.int .u64 o] 29)).alloc (.cells #[.int .u64 v] 29)).alloc (.cells #[.int .i64 0, .int .i64 0, .int .i64 0, .int .u64 0, .int .u64 0, .bool false] 62)).heap.size = w.heap.size + 3 := by rw [size_new, size_new, size_new]
  have C0 : (((w.alloc (.cells #[.int .u64 o] 29)).alloc (.cells #[.int .u64 v] 29)).alloc (.cells #[.int .i64 0, .int .i64 0, .int .i64 0, .int .u64 0, .int .u64 0, .bool false] 62)).cell? ⟨w.heap.size, 0, none⟩ = some (.int .u64 o) := Mem.cell (show Mem (((w.alloc (.cells #[.int .u64 o] 29)).alloc (.cells #[.int .u64 v] 29)).alloc (.cells #[.int .i64 0, .int .i64 0, .int .i64 0, .int .u64 0, .int .u64 0, .bool false] 62)) (w.heap.size) 29 #[.int .u64 o] from ((Mem.new w _ _).alloc _).alloc _) 0
  have C1 : (((w.alloc (.cells #[.int .u64 o] 29)).alloc (.cells #[.int .u64 v] 29)).alloc (.cells #[.int .i64 0, .int .i64 0, .int .i64 0, .int .u64 0, .int .u64 0, .bool false] 62)).cell? ⟨w.heap.size + 1, 0, none⟩ = some (.int .u64 v) := Mem.cell (show Mem (((w.alloc (.cells #[.int .u64 o] 29)).alloc (.cells #[.int .u64 v] 29)).alloc (.cells #[.int .i64 0, .int .i64 0, .int .i64 0, .int .u64 0, .int .u64 0, .bool false] 62)) (w.heap.size + 1) 29 #[.int .u64 v] from (mem_new1 w _ _ _).alloc _) 0
  obtain ⟨W, hW⟩ : ∃ W, (((w.alloc (.cells #[.int .u64 o] 29)).alloc (.cells #[.int .u64 v] 29)).alloc (.cells #[.int .i64 0, .int .i64 0, .int .i64 0, .int .u64 0, .int .u64 0, .bool false] 62)) = W := ⟨_, rfl⟩
  rw [hW] at B0 M0 SZ C0 C1
  go_enter Try.func67, Try.ntmps67
  go_upto_region 1 with (fail)
  try rw [hW]
  clear hW
  go_wp2_with (go_at_call 102; (with_reducible refine (p_nil _ _ _ _ _).mono ?_); rintro e w1 ⟨rfl, hb1⟩; have M1 := M0.below hb1 M0.lt; have HB := Lib.hid (B0.trans (hb1.mono B0.size)); have HZ := Lib.hid hb1.size; clear hb1 M0 B0; have d0 := M1.cell 0; have d1 := M1.cell 1; have d2 := M1.cell 2; have d3 := M1.cell 3; have d4 := M1.cell 4; have d5 := M1.cell 5; have df := M1.frozen)
  obtain ⟨M2, S2⟩ := store6 M1 (.int .i64 0) (.int .i64 0) (.int .i64 0) (.int .u64 0) (.int .u64 0) (.bool false)
  have B2 := HB.out.trans (S2.below (B := w.heap.size) (by omega) (by have := HZ.out; omega))
  obtain ⟨V, hV⟩ : ∃ V, ((((((w1.setCell ⟨w.heap.size + 2, 0, none⟩ (.int .i64 0)).setCell ⟨w.heap.size + 2, 1, none⟩ (.int .i64 0)).setCell ⟨w.heap.size + 2, 2, none⟩ (.int .i64 0)).setCell ⟨w.heap.size + 2, 3, none⟩ (.int .u64 0)).setCell ⟨w.heap.size + 2, 4, none⟩ (.int .u64 0)).setCell ⟨w.heap.size + 2, 5, none⟩ (.bool false)) = V := ⟨_, rfl⟩
  rw [hV] at M2 B2 ⊢
  have e0 := M2.cell 0
  have e1 := M2.cell 1
  have e2 := M2.cell 2
  have e3 := M2.cell 3
  have e4 := M2.cell 4
  have e5 := M2.cell 5
  simp at e0 e1 e2 e3 e4 e5
  refine bodyPost_ret (v := .tuple #[accV 0 0 0 0 0 false, .int .i64 1]) ((results_cell_tmp rfl _ _ _).trans (by simp [go_sem, e0, e1, e2, e3, e4, e5])) rfl ⟨rfl, B2⟩
end Go.Proofs.Ytpjbmbipkmpkhaa.CelO
