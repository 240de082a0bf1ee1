/-
  Contract of the reference of layer 8: do.
-/
import Derived.Test.YtcbhpoajpingcaaCelD
import Derived.Test.YtcbhpoajpingcaaCelO
namespace Go.Proofs.Ytcbhpoajpingcaa.CelDo
open Go.ChangeShapes Go.WideShapes Go.ChangeAt Go.RowKit
open PlainT BlkW LayS LayA CelS CelM CelP CelV CelN CelO CelF CelZ CelC CelD
set_option linter.unusedVariables false
set_option maxHeartbeats 1000000
set_option maxRecDepth 100000
theorem r_do_set (lo hi : Nat) (w : World) (rb : Nat) (q : Cfg) (A : Int → List Int) (h : RefIs lo hi w rb q A) (kind k : Int) (hk : 1 ≤ k ∧ k ≤ 8) (i : Nat) (hil : i < (A k).length) (x v : Int) (hx : (A k).getD i 0 = x) : Calls Try.prog 104 #[.pointer (some ⟨rb, 0, none⟩), .int .i64 kind, .int .i64 k, .int .i64 i, .bool true, .int .u64 v] w fun e w' => e = .returned (accV kind k i x v true) ∧ RefIs lo hi w' rb q (upd A k i v) ∧ Stay lo hi w w' := by
  go_enter Try.func104, Try.ntmps104
  go_upto_region 1 with (fail)
  have HW0 := Lib.hid (below_new w (.cells #[.int .i64 0, .int .i64 0, .int .i64 0, .int .u64 0, .int .u64 0, .bool false] 60))
  have g1 := r_get lo hi _ rb q A (h.below HW0.out) k hk i hil x hx
  go_upto_region 2 with (go_at_call 16; refine g1.mono ?_; rintro e w1 ⟨rfl, rfl⟩)
  have M12 := Lib.hid (Mem.alloc (Mem.new w 60 #[.int .i64 0, .int .i64 0, .int .i64 0, .int .u64 0, .int .u64 0, .bool false]) (.cells #[.int .i64 kind, .int .i64 k, .int .i64 i, .int .u64 x, .int .u64 0, .bool true] 60))
  have M13 := Lib.hid (mem_new1 w (.cells #[.int .i64 0, .int .i64 0, .int .i64 0, .int .u64 0, .int .u64 0, .bool false] 60) 60 #[.int .i64 kind, .int .i64 k, .int .i64 i, .int .u64 x, .int .u64 0, .bool true])
  have H2 := Lib.hid (h.below (below_new2 w (.cells #[.int .i64 0, .int .i64 0, .int .i64 0, .int .u64 0, .int .u64 0, .bool false] 60) (.cells #[.int .i64 kind, .int .i64 k, .int .i64 i, .int .u64 x, .int .u64 0, .bool true] 60)))
  have S2 := Lib.hid (Stay.of_below (lo := lo) (hi := hi) (below_new2 w (.cells #[.int .i64 0, .int .i64 0, .int .i64 0, .int .u64 0, .int .u64 0, .bool false] 60) (.cells #[.int .i64 kind, .int .i64 k, .int .i64 i, .int .u64 x, .int .u64 0, .bool true] 60)))
  have htop := h.top
  obtain ⟨W2, hW2⟩ : ∃ W2, (w.alloc (.cells #[.int .i64 0, .int .i64 0, .int .i64 0, .int .u64 0, .int .u64 0, .bool false] 60)).alloc (.cells #[.int .i64 kind, .int .i64 k, .int .i64 i, .int .u64 x, .int .u64 0, .bool true] 60) = W2 := ⟨_, rfl⟩
  rw [hW2] at M12 M13 H2 S2 ⊢
  clear hW2 g1 HW0 h
  have hset := r_set lo hi W2 rb q A H2.out k hk i hil v
  go_upto_region 5 with (go_at_call 116; refine hset.mono ?_; rintro e w3 ⟨rfl, hR3, hS3⟩)
  have N12 := Lib.hid ((hS3.block w.heap.size M12.out.lt (.inr htop)).trans M12.out)
  have N13 := Lib.hid ((hS3.block (w.heap.size + 1) M13.out.lt (.inr (by omega))).trans M13.out)
  have S3 := Lib.hid (S2.out.trans hS3)
  have R3 := Lib.hid hR3
  have g3 := r_get lo hi w3 rb q (upd A k i v) hR3 k hk i (by rw [upd_len]; exact hil) v (by
    simp only [upd, if_pos]
    rw [List.getD_eq_getElem?_getD, List.getElem?_set_self hil]
    rfl)
  have f4 : w3.cell? ⟨w.heap.size + 1, 4, none⟩ = some (.int .u64 0) := Mem.cell (show Mem w3 (w.heap.size + 1) 60 #[.int .i64 kind, .int .i64 k, .int .i64 i, .int .u64 x, .int .u64 0, .bool true] from N13.out) 4
  have z4 : w3.frozen? ⟨w.heap.size + 1, 4, none⟩ = false := Mem.frozen (show Mem w3 (w.heap.size + 1) 60 #[.int .i64 kind, .int .i64 k, .int .i64 i, .int .u64 x, .int .u64 0, .bool true] from N13.out) 4
  clear hset hR3 hS3 M12 M13 H2 S2 hx
  go_upto_region 6 with (go_at_call 16; refine g3.mono ?_; rintro e w4 ⟨rfl, rfl⟩)
  have P13 : Mem (w3.setCell ⟨w.heap.size + 1, 4, none⟩ (.int .u64 v)) (w.heap.size + 1) 60 #[.int .i64 kind, .int .i64 k, .int .i64 i, .int .u64 x, .int .u64 v, .bool true] := Mem.set_ (show Mem w3 (w.heap.size + 1) 60 #[.int .i64 kind, .int .i64 k, .int .i64 i, .int .u64 x, .int .u64 0, .bool true] from N13.out) 4 (.int .u64 v)
  have P12 : Mem (w3.setCell ⟨w.heap.size + 1, 4, none⟩ (.int .u64 v)) w.heap.size 60 #[.int .i64 0, .int .i64 0, .int .i64 0, .int .u64 0, .int .u64 0, .bool false] := Mem.far (show Mem w3 w.heap.size 60 #[.int .i64 0, .int .i64 0, .int .i64 0, .int .u64 0, .int .u64 0, .bool false] from N12.out) (by show w.heap.size ≠ w.heap.size + 1; omega) _
  have S4 := Lib.hid (S3.out.set_ ⟨w.heap.size + 1, 4, none⟩ (.inr (Nat.le_succ _)) (.int .u64 v))
  have R4 := Lib.hid (R3.out.stay ((Stay.refl (w.heap.size + 1) (w.heap.size + 2) w3).set_ ⟨w.heap.size + 1, 4, none⟩ (.inl ⟨Nat.le_refl _, Nat.lt_succ_self _⟩) (.int .u64 v)) (.inl (by omega)))
  obtain ⟨W4, hW4⟩ : ∃ W4, w3.setCell ⟨w.heap.size + 1, 4, none⟩ (.int .u64 v) = W4 := ⟨_, rfl⟩
  rw [hW4] at P13 P12 S4 R4 ⊢
  have HP12 := Lib.hid P12
  have c0 := P13.cell 0
  have c1 := P13.cell 1
  have c2 := P13.cell 2
  have c3 := P13.cell 3
  have c4 := P13.cell 4
  have c5 := P13.cell 5
  have a0 := P12.cell 0
  have a1 := P12.cell 1
  have a2 := P12.cell 2
  have a3 := P12.cell 3
  have a4 := P12.cell 4
  have a5 := P12.cell 5
  have af := P12.frozen
  simp at c0 c1 c2 c3 c4 c5 a0 a1 a2 a3 a4 a5
  clear hW4 N12 N13 S3 R3 g3 f4 z4 P12 P13
  go_wp2
  obtain ⟨M5, S5⟩ := store6 HP12.out (.int .i64 kind) (.int .i64 k) (.int .i64 i) (.int .u64 x) (.int .u64 v) (.bool true)
  have R5 := R4.out.stay S5 (.inl (by omega))
  have S6 := Stay.over S4.out S5 (Nat.le_refl _)
  obtain ⟨V, hV⟩ : ∃ V, ((((((W4.setCell ⟨w.heap.size, 0, none⟩ (.int .i64 kind)).setCell ⟨w.heap.size, 1, none⟩ (.int .i64 k)).setCell ⟨w.heap.size, 2, none⟩ (.int .i64 i)).setCell ⟨w.heap.size, 3, none⟩ (.int .u64 x)).setCell ⟨w.heap.size, 4, none⟩ (.int .u64 v)).setCell ⟨w.heap.size, 5, none⟩ (.bool true)) = V := ⟨_, rfl⟩
  rw [hV] at M5 R5 S6 ⊢
  refine bodyPost_ret (v := accV kind k i x v true) (results_cell_row rfl _ _ w.heap.size 60 #[.int .i64 kind, .int .i64 k, .int .i64 i, .int .u64 x, .int .u64 v, .bool true] (0, 0) _ (by simp) M5 Try.underlying60 rfl (by kernel_rfl)) rfl ⟨rfl, R5, S6⟩
end Go.Proofs.Ytcbhpoajpingcaa.CelDo
