/-
  Contracts of the reference of layer 8: do (flag false), Load, Store, Swap, Add.
-/
import Derived.Test.YtpjbmbipkmpkhaaLabD
namespace Go.Proofs.Ytpjbmbipkmpkhaa.CelLo
open Go.ChangeShapes Go.WideShapes Go.ChangeAt Go.RowKit
open PlainT BlkW LayS LayA CelS CelM CelP CelV CelN CelO CelF CelZ CelC CelD CelH CelDo LabD
set_option linter.unusedVariables false
set_option maxHeartbeats 1000000
set_option maxRecDepth 100000

theorem r_do_get (lo hi : Nat) (w : World) (rb : Nat) (q : Cfg) (A : Int → List Int) (h : RefIs lo hi w rb q A) (kind : Int) (d : Bool) (hd : (kind == 1) = d) (k : Int) (hk : 1 ≤ k ∧ k ≤ 8) (i : Nat) (hil : i < (A k).length) (x : Int) (hx : (A k).getD i 0 = x) (v : Int) : Calls Try.prog 107 #[.pointer (some ⟨rb, 0, none⟩), .int .i64 kind, .int .i64 k, .int .i64 i, .bool false, .int .u64 v] w fun e w' => e = .returned (accV kind k i x x d) ∧ RefIs lo hi w' rb q A ∧ Stay lo hi w w' := by
  go_enter Try.func107, Try.ntmps107
  go_upto_region 1 with (fail)
  have HW0 := Lib.hid (below_new w (.cells #[.int .i64 0, .int .i64 0, .int .i64 0, .int .u64 0, .int .u64 0, .bool false] 62))
  have g1 := r_get lo hi _ rb q A (h.below HW0.out) k hk i hil x hx
  go_upto_region 2 with (go_at_call 14; refine g1.mono ?_; rintro e w1 ⟨rfl, rfl⟩)
  have M12 := Lib.hid (Mem.alloc (Mem.new w 62 #[.int .i64 0, .int .i64 0, .int .i64 0, .int .u64 0, .int .u64 0, .bool false]) (.cells #[.int .i64 kind, .int .i64 k, .int .i64 i, .int .u64 x, .int .u64 0, .bool true] 62))
  have M13 := Lib.hid (mem_new1 w (.cells #[.int .i64 0, .int .i64 0, .int .i64 0, .int .u64 0, .int .u64 0, .bool false] 62) 62 #[.int .i64 kind, .int .i64 k, .int .i64 i, .int .u64 x, .int .u64 0, .bool true])
  have H2 := Lib.hid (h.below (below_new2 w (.cells #[.int .i64 0, .int .i64 0, .int .i64 0, .int .u64 0, .int .u64 0, .bool false] 62) (.cells #[.int .i64 kind, .int .i64 k, .int .i64 i, .int .u64 x, .int .u64 0, .bool true] 62)))
  have S2 := Lib.hid (Stay.of_below (lo := lo) (hi := hi) (below_new2 w (.cells #[.int .i64 0, .int .i64 0, .int .i64 0, .int .u64 0, .int .u64 0, .bool false] 62) (.cells #[.int .i64 kind, .int .i64 k, .int .i64 i, .int .u64 x, .int .u64 0, .bool true] 62)))
  have htop := h.top
  obtain ⟨W2, hW2⟩ : ∃ W2, (w.alloc (.cells #[.int .i64 0, .int .i64 0, .int .i64 0, .int .u64 0, .int .u64 0, .bool false] 62)).alloc (.cells #[.int .i64 kind, .int .i64 k, .int .i64 i, .int .u64 x, .int .u64 0, .bool true] 62) = W2 := ⟨_, rfl⟩
  rw [hW2] at M12 M13 H2 S2 ⊢
  clear hW2 g1 HW0 h
  have f5 : W2.cell? ⟨w.heap.size + 1, 5, none⟩ = some (.bool true) := Mem.cell M13.out 5
  have z5 : W2.frozen? ⟨w.heap.size + 1, 5, none⟩ = false := Mem.frozen M13.out 5
  go_upto_region 5 with (fail)
  have N13 := Lib.hid (M13.out.set_ 5 (.bool d))
  have N12 := Lib.hid (M12.out.far (a := ⟨w.heap.size + 1, 5, none⟩) (by show w.heap.size ≠ w.heap.size + 1; omega) (.bool d))
  have S3 := Lib.hid (S2.out.set_ ⟨w.heap.size + 1, 5, none⟩ (.inr (Nat.le_succ _)) (.bool d))
  have R3 := Lib.hid (H2.out.stay ((Stay.refl (w.heap.size + 1) (w.heap.size + 2) W2).set_ ⟨w.heap.size + 1, 5, none⟩ (.inl ⟨Nat.le_refl _, Nat.lt_succ_self _⟩) (.bool d)) (.inl (by omega)))
  obtain ⟨W3, hW3⟩ : ∃ W3, W2.setCell ⟨w.heap.size + 1, 5, none⟩ (.bool d) = W3 := ⟨_, rfl⟩
  rw [hW3] at N13 N12 S3 R3 ⊢
  clear hW3 f5 z5 M12 M13 H2 S2
  have g3 := r_get lo hi W3 rb q A R3.out k hk i hil x hx
  have f4 : W3.cell? ⟨w.heap.size + 1, 4, none⟩ = some (.int .u64 0) := by
    have := Mem.cell N13.out 4
    simpa using this
  have z4 : W3.frozen? ⟨w.heap.size + 1, 4, none⟩ = false := Mem.frozen N13.out 4
  go_upto_region 6 with (go_at_call 14; refine g3.mono ?_; rintro e w4 ⟨rfl, rfl⟩)
  have P13 := N13.out.set_ 4 (.int .u64 x)
  have P12 := Lib.hid (N12.out.far (a := ⟨w.heap.size + 1, 4, none⟩) (by show w.heap.size ≠ w.heap.size + 1; omega) (.int .u64 x))
  have S4 := Lib.hid (S3.out.set_ ⟨w.heap.size + 1, 4, none⟩ (.inr (Nat.le_succ _)) (.int .u64 x))
  have R4 := Lib.hid (R3.out.stay ((Stay.refl (w.heap.size + 1) (w.heap.size + 2) W3).set_ ⟨w.heap.size + 1, 4, none⟩ (.inl ⟨Nat.le_refl _, Nat.lt_succ_self _⟩) (.int .u64 x)) (.inl (by omega)))
  obtain ⟨W4, hW4⟩ : ∃ W4, W3.setCell ⟨w.heap.size + 1, 4, none⟩ (.int .u64 x) = W4 := ⟨_, rfl⟩
  rw [hW4] at P13 P12 S4 R4 ⊢
  have c0 := P13.cell 0
  have c1 := P13.cell 1
  have c2 := P13.cell 2
  have c3 := P13.cell 3
  have c4 := P13.cell 4
  have c5 := P13.cell 5
  have a0 := P12.out.cell 0
  have a1 := P12.out.cell 1
  have a2 := P12.out.cell 2
  have a3 := P12.out.cell 3
  have a4 := P12.out.cell 4
  have a5 := P12.out.cell 5
  have af := P12.out.frozen
  simp at c0 c1 c2 c3 c4 c5 a0 a1 a2 a3 a4 a5
  clear hW4 N12 N13 S3 R3 g3 f4 z4 P13
  go_wp2
  have M1 := P12.out
  obtain ⟨M5, S5⟩ := store6 (gb := w.heap.size) M1 (.int .i64 kind) (.int .i64 k) (.int .i64 i) (.int .u64 x) (.int .u64 x) (.bool d)
  have R5 := R4.out.stay S5 (.inl (by omega))
  have S6 := Stay.over S4.out S5 (Nat.le_refl _)
  obtain ⟨V, hV⟩ : ∃ V, ((((((W4.setCell ⟨w.heap.size, 0, none⟩ (.int .i64 kind)).setCell ⟨w.heap.size, 1, none⟩ (.int .i64 k)).setCell ⟨w.heap.size, 2, none⟩ (.int .i64 i)).setCell ⟨w.heap.size, 3, none⟩ (.int .u64 x)).setCell ⟨w.heap.size, 4, none⟩ (.int .u64 x)).setCell ⟨w.heap.size, 5, none⟩ (.bool d)) = V := ⟨_, rfl⟩
  rw [hV] at M5 R5 S6 ⊢
  refine bodyPost_ret (v := .agg #[.int .i64 kind, .int .i64 k, .int .i64 i, .int .u64 x, .int .u64 x, .bool d]) (results_cell_row rfl _ _ w.heap.size 62 #[.int .i64 kind, .int .i64 k, .int .i64 i, .int .u64 x, .int .u64 x, .bool d] (0, 0) _ (by simp) M5 Try.underlying62 rfl (by kernel_rfl)) rfl ⟨rfl, R5, S6⟩

theorem r_load (lo hi : Nat) (w : World) (rb : Nat) (q : Cfg) (A : Int → List Int) (h : RefIs lo hi w rb q A) (hout : ∀ k, ¬ (1 ≤ k ∧ k ≤ 8) → A k = []) (k : Int) (hk : 1 ≤ k ∧ k ≤ 8) (i : Nat) (hil : i < (A k).length) (x : Int) (hx : (A k).getD i 0 = x) : Calls Try.prog 71 #[.pointer (some ⟨rb, 0, none⟩), .int .i64 k, .int .i64 i] w fun e w' => e = .returned (accV 1 k i x x true) ∧ RefIs lo hi w' rb q (A) ∧ Stay lo hi w w' := by
  have HW0 := Lib.hid (below_new w (.cells #[.int .i64 0, .int .i64 0, .int .i64 0, .int .u64 0, .int .u64 0, .bool false] 62))
  have HM0 := Lib.hid (Mem.new w 62 #[.int .i64 0, .int .i64 0, .int .i64 0, .int .u64 0, .int .u64 0, .bool false])
  have hh := r_has lo hi _ rb q A (h.below HW0.out) hout k i
  rw [decide_eq_true (show 0 ≤ (i : Int) ∧ (i : Int) < (A k).length by omega)] at hh
  have H1 := Lib.hid (h.below HW0.out)
  have htop := h.top
  have hlt := HM0.out.lt
  go_enter Try.func71, Try.ntmps71
  go_upto_region 1 with (fail)
  obtain ⟨W, hW⟩ : ∃ W, w.alloc (.cells #[.int .i64 0, .int .i64 0, .int .i64 0, .int .u64 0, .int .u64 0, .bool false] 62) = W := ⟨_, rfl⟩
  rw [hW] at HW0 HM0 hh H1 hlt ⊢
  clear hW h
  have hg := r_get lo hi W rb q A H1.out k hk i hil x hx
  have hd0 := r_do_get lo hi W rb q A H1.out 1 true rfl k hk i hil x hx 0
  go_upto_region 3 with (go_at_call 106; (with_reducible refine hh.mono ?_); rintro e w1 ⟨rfl, rfl⟩)
  go_wp2_with (first | (go_at_call 107; (with_reducible refine hd0.mono ?_); rintro e w3 ⟨rfl, hR3, hS3⟩; have M1 := (hS3.block w.heap.size hlt (.inr htop)).trans HM0.out; have d0 := Mem.cell M1 0; have d1 := Mem.cell M1 1; have d2 := Mem.cell M1 2; have d3 := Mem.cell M1 3; have d4 := Mem.cell M1 4; have d5 := Mem.cell M1 5; have df := Mem.frozen M1; have HR := Lib.hid hR3; have HS := Lib.hid hS3; clear hR3 hS3))
  have M1 : Mem w3 w.heap.size 62 #[.int .i64 0, .int .i64 0, .int .i64 0, .int .u64 0, .int .u64 0, .bool false] := M1
  obtain ⟨M5, S5⟩ := store6 (gb := w.heap.size) M1 (.int .i64 1) (.int .i64 k) (.int .i64 i) (.int .u64 x) (.int .u64 x) (.bool true)
  have R5 := HR.out.stay S5 (.inl (by omega))
  have S6 := Stay.over ((Stay.of_below HW0.out).trans HS.out) S5 (Nat.le_refl _)
  obtain ⟨V, hV⟩ : ∃ V, ((((((w3.setCell ⟨w.heap.size, 0, none⟩ (.int .i64 1)).setCell ⟨w.heap.size, 1, none⟩ (.int .i64 k)).setCell ⟨w.heap.size, 2, none⟩ (.int .i64 i)).setCell ⟨w.heap.size, 3, none⟩ (.int .u64 x)).setCell ⟨w.heap.size, 4, none⟩ (.int .u64 x)).setCell ⟨w.heap.size, 5, none⟩ (.bool true)) = V := ⟨_, rfl⟩
  rw [hV] at M5 R5 S6 ⊢
  refine bodyPost_ret (v := .agg #[.int .i64 1, .int .i64 k, .int .i64 i, .int .u64 x, .int .u64 x, .bool true]) (results_cell_row rfl _ _ w.heap.size 62 #[.int .i64 1, .int .i64 k, .int .i64 i, .int .u64 x, .int .u64 x, .bool true] (0, 0) _ (by simp) M5 Try.underlying62 rfl (by kernel_rfl)) rfl ⟨rfl, R5, S6⟩

theorem r_store (lo hi : Nat) (w : World) (rb : Nat) (q : Cfg) (A : Int → List Int) (h : RefIs lo hi w rb q A) (hout : ∀ k, ¬ (1 ≤ k ∧ k ≤ 8) → A k = []) (k : Int) (hk : 1 ≤ k ∧ k ≤ 8) (i : Nat) (hil : i < (A k).length) (x : Int) (hx : (A k).getD i 0 = x) (v : Int) : Calls Try.prog 73 #[.pointer (some ⟨rb, 0, none⟩), .int .i64 k, .int .i64 i, .int .u64 v] w fun e w' => e = .returned (accV 2 k i x v true) ∧ RefIs lo hi w' rb q (upd A k i v) ∧ Stay lo hi w w' := by
  have HW0 := Lib.hid (below_new w (.cells #[.int .i64 0, .int .i64 0, .int .i64 0, .int .u64 0, .int .u64 0, .bool false] 62))
  have HM0 := Lib.hid (Mem.new w 62 #[.int .i64 0, .int .i64 0, .int .i64 0, .int .u64 0, .int .u64 0, .bool false])
  have hh := r_has lo hi _ rb q A (h.below HW0.out) hout k i
  rw [decide_eq_true (show 0 ≤ (i : Int) ∧ (i : Int) < (A k).length by omega)] at hh
  have H1 := Lib.hid (h.below HW0.out)
  have htop := h.top
  have hlt := HM0.out.lt
  go_enter Try.func73, Try.ntmps73
  go_upto_region 1 with (fail)
  obtain ⟨W, hW⟩ : ∃ W, w.alloc (.cells #[.int .i64 0, .int .i64 0, .int .i64 0, .int .u64 0, .int .u64 0, .bool false] 62) = W := ⟨_, rfl⟩
  rw [hW] at HW0 HM0 hh H1 hlt ⊢
  clear hW h
  have hg := r_get lo hi W rb q A H1.out k hk i hil x hx
  have hd0 := r_do_set lo hi W rb q A H1.out 2 k hk i hil x v hx
  go_upto_region 3 with (go_at_call 106; (with_reducible refine hh.mono ?_); rintro e w1 ⟨rfl, rfl⟩)
  go_wp2_with (first | (go_at_call 107; (with_reducible refine hd0.mono ?_); rintro e w3 ⟨rfl, hR3, hS3⟩; have M1 := (hS3.block w.heap.size hlt (.inr htop)).trans HM0.out; have d0 := Mem.cell M1 0; have d1 := Mem.cell M1 1; have d2 := Mem.cell M1 2; have d3 := Mem.cell M1 3; have d4 := Mem.cell M1 4; have d5 := Mem.cell M1 5; have df := Mem.frozen M1; have HR := Lib.hid hR3; have HS := Lib.hid hS3; clear hR3 hS3))
  have M1 : Mem w3 w.heap.size 62 #[.int .i64 0, .int .i64 0, .int .i64 0, .int .u64 0, .int .u64 0, .bool false] := M1
  obtain ⟨M5, S5⟩ := store6 (gb := w.heap.size) M1 (.int .i64 2) (.int .i64 k) (.int .i64 i) (.int .u64 x) (.int .u64 v) (.bool true)
  have R5 := HR.out.stay S5 (.inl (by omega))
  have S6 := Stay.over ((Stay.of_below HW0.out).trans HS.out) S5 (Nat.le_refl _)
  obtain ⟨V, hV⟩ : ∃ V, ((((((w3.setCell ⟨w.heap.size, 0, none⟩ (.int .i64 2)).setCell ⟨w.heap.size, 1, none⟩ (.int .i64 k)).setCell ⟨w.heap.size, 2, none⟩ (.int .i64 i)).setCell ⟨w.heap.size, 3, none⟩ (.int .u64 x)).setCell ⟨w.heap.size, 4, none⟩ (.int .u64 v)).setCell ⟨w.heap.size, 5, none⟩ (.bool true)) = V := ⟨_, rfl⟩
  rw [hV] at M5 R5 S6 ⊢
  refine bodyPost_ret (v := .agg #[.int .i64 2, .int .i64 k, .int .i64 i, .int .u64 x, .int .u64 v, .bool true]) (results_cell_row rfl _ _ w.heap.size 62 #[.int .i64 2, .int .i64 k, .int .i64 i, .int .u64 x, .int .u64 v, .bool true] (0, 0) _ (by simp) M5 Try.underlying62 rfl (by kernel_rfl)) rfl ⟨rfl, R5, S6⟩

theorem r_add (lo hi : Nat) (w : World) (rb : Nat) (q : Cfg) (A : Int → List Int) (h : RefIs lo hi w rb q A) (hout : ∀ k, ¬ (1 ≤ k ∧ k ≤ 8) → A k = []) (k : Int) (hk : 1 ≤ k ∧ k ≤ 8) (i : Nat) (hil : i < (A k).length) (x : Int) (hx : (A k).getD i 0 = x) (v s : Int) (hs : IntKind.u64.wrap (x + v) = s) : Calls Try.prog 75 #[.pointer (some ⟨rb, 0, none⟩), .int .i64 k, .int .i64 i, .int .u64 v] w fun e w' => e = .returned (accV 4 k i x s true) ∧ RefIs lo hi w' rb q (upd A k i s) ∧ Stay lo hi w w' := by
  have HW0 := Lib.hid (below_new w (.cells #[.int .i64 0, .int .i64 0, .int .i64 0, .int .u64 0, .int .u64 0, .bool false] 62))
  have HM0 := Lib.hid (Mem.new w 62 #[.int .i64 0, .int .i64 0, .int .i64 0, .int .u64 0, .int .u64 0, .bool false])
  have hh := r_has lo hi _ rb q A (h.below HW0.out) hout k i
  rw [decide_eq_true (show 0 ≤ (i : Int) ∧ (i : Int) < (A k).length by omega)] at hh
  have H1 := Lib.hid (h.below HW0.out)
  have htop := h.top
  have hlt := HM0.out.lt
  go_enter Try.func75, Try.ntmps75
  go_upto_region 1 with (fail)
  obtain ⟨W, hW⟩ : ∃ W, w.alloc (.cells #[.int .i64 0, .int .i64 0, .int .i64 0, .int .u64 0, .int .u64 0, .bool false] 62) = W := ⟨_, rfl⟩
  rw [hW] at HW0 HM0 hh H1 hlt ⊢
  clear hW h
  have hg := r_get lo hi W rb q A H1.out k hk i hil x hx
  have hd0 := r_do_set lo hi W rb q A H1.out 4 k hk i hil x s hx
  go_upto_region 3 with (go_at_call 106; (with_reducible refine hh.mono ?_); rintro e w1 ⟨rfl, rfl⟩)
  go_wp2_with (first | (go_at_call 14; (with_reducible refine hg.mono ?_); rintro e w2 ⟨rfl, rfl⟩) | (go_at_call 107; (with_reducible refine hd0.mono ?_); rintro e w3 ⟨rfl, hR3, hS3⟩; have M1 := (hS3.block w.heap.size hlt (.inr htop)).trans HM0.out; have d0 := Mem.cell M1 0; have d1 := Mem.cell M1 1; have d2 := Mem.cell M1 2; have d3 := Mem.cell M1 3; have d4 := Mem.cell M1 4; have d5 := Mem.cell M1 5; have df := Mem.frozen M1; have HR := Lib.hid hR3; have HS := Lib.hid hS3; clear hR3 hS3))
  have M1 : Mem w3 w.heap.size 62 #[.int .i64 0, .int .i64 0, .int .i64 0, .int .u64 0, .int .u64 0, .bool false] := M1
  obtain ⟨M5, S5⟩ := store6 (gb := w.heap.size) M1 (.int .i64 4) (.int .i64 k) (.int .i64 i) (.int .u64 x) (.int .u64 s) (.bool true)
  have R5 := HR.out.stay S5 (.inl (by omega))
  have S6 := Stay.over ((Stay.of_below HW0.out).trans HS.out) S5 (Nat.le_refl _)
  obtain ⟨V, hV⟩ : ∃ V, ((((((w3.setCell ⟨w.heap.size, 0, none⟩ (.int .i64 4)).setCell ⟨w.heap.size, 1, none⟩ (.int .i64 k)).setCell ⟨w.heap.size, 2, none⟩ (.int .i64 i)).setCell ⟨w.heap.size, 3, none⟩ (.int .u64 x)).setCell ⟨w.heap.size, 4, none⟩ (.int .u64 s)).setCell ⟨w.heap.size, 5, none⟩ (.bool true)) = V := ⟨_, rfl⟩
  rw [hV] at M5 R5 S6 ⊢
  refine bodyPost_ret (v := .agg #[.int .i64 4, .int .i64 k, .int .i64 i, .int .u64 x, .int .u64 s, .bool true]) (results_cell_row rfl _ _ w.heap.size 62 #[.int .i64 4, .int .i64 k, .int .i64 i, .int .u64 x, .int .u64 s, .bool true] (0, 0) _ (by simp) M5 Try.underlying62 rfl (by kernel_rfl)) rfl ⟨rfl, R5, S6⟩

theorem r_swap_yes (lo hi : Nat) (w : World) (rb : Nat) (q : Cfg) (A : Int → List Int) (h : RefIs lo hi w rb q A) (hout : ∀ k, ¬ (1 ≤ k ∧ k ≤ 8) → A k = []) (k : Int) (hk : 1 ≤ k ∧ k ≤ 8) (i : Nat) (hil : i < (A k).length) (x : Int) (hx : (A k).getD i 0 = x) (o v : Int) (ho : (x == o) = true) : Calls Try.prog 74 #[.pointer (some ⟨rb, 0, none⟩), .int .i64 k, .int .i64 i, .int .u64 o, .int .u64 v] w fun e w' => e = .returned (accV 3 k i x v true) ∧ RefIs lo hi w' rb q (upd A k i v) ∧ Stay lo hi w w' := by
  have HW0 := Lib.hid (below_new w (.cells #[.int .i64 0, .int .i64 0, .int .i64 0, .int .u64 0, .int .u64 0, .bool false] 62))
  have HM0 := Lib.hid (Mem.new w 62 #[.int .i64 0, .int .i64 0, .int .i64 0, .int .u64 0, .int .u64 0, .bool false])
  have hh := r_has lo hi _ rb q A (h.below HW0.out) hout k i
  rw [decide_eq_true (show 0 ≤ (i : Int) ∧ (i : Int) < (A k).length by omega)] at hh
  have H1 := Lib.hid (h.below HW0.out)
  have htop := h.top
  have hlt := HM0.out.lt
  go_enter Try.func74, Try.ntmps74
  go_upto_region 1 with (fail)
  obtain ⟨W, hW⟩ : ∃ W, w.alloc (.cells #[.int .i64 0, .int .i64 0, .int .i64 0, .int .u64 0, .int .u64 0, .bool false] 62) = W := ⟨_, rfl⟩
  rw [hW] at HW0 HM0 hh H1 hlt ⊢
  clear hW h
  have hg := r_get lo hi W rb q A H1.out k hk i hil x hx
  have hd0 := r_do_set lo hi W rb q A H1.out 3 k hk i hil x v hx
  go_upto_region 3 with (go_at_call 106; (with_reducible refine hh.mono ?_); rintro e w1 ⟨rfl, rfl⟩)
  go_wp2_with (first | (go_at_call 14; (with_reducible refine hg.mono ?_); rintro e w2 ⟨rfl, rfl⟩) | (go_at_call 107; (with_reducible refine hd0.mono ?_); rintro e w3 ⟨rfl, hR3, hS3⟩; have M1 := (hS3.block w.heap.size hlt (.inr htop)).trans HM0.out; have d0 := Mem.cell M1 0; have d1 := Mem.cell M1 1; have d2 := Mem.cell M1 2; have d3 := Mem.cell M1 3; have d4 := Mem.cell M1 4; have d5 := Mem.cell M1 5; have df := Mem.frozen M1; have HR := Lib.hid hR3; have HS := Lib.hid hS3; clear hR3 hS3))
  have M1 : Mem w3 w.heap.size 62 #[.int .i64 0, .int .i64 0, .int .i64 0, .int .u64 0, .int .u64 0, .bool false] := M1
  obtain ⟨M5, S5⟩ := store6 (gb := w.heap.size) M1 (.int .i64 3) (.int .i64 k) (.int .i64 i) (.int .u64 x) (.int .u64 v) (.bool true)
  have R5 := HR.out.stay S5 (.inl (by omega))
  have S6 := Stay.over ((Stay.of_below HW0.out).trans HS.out) S5 (Nat.le_refl _)
  obtain ⟨V, hV⟩ : ∃ V, ((((((w3.setCell ⟨w.heap.size, 0, none⟩ (.int .i64 3)).setCell ⟨w.heap.size, 1, none⟩ (.int .i64 k)).setCell ⟨w.heap.size, 2, none⟩ (.int .i64 i)).setCell ⟨w.heap.size, 3, none⟩ (.int .u64 x)).setCell ⟨w.heap.size, 4, none⟩ (.int .u64 v)).setCell ⟨w.heap.size, 5, none⟩ (.bool true)) = V := ⟨_, rfl⟩
  rw [hV] at M5 R5 S6 ⊢
  refine bodyPost_ret (v := .agg #[.int .i64 3, .int .i64 k, .int .i64 i, .int .u64 x, .int .u64 v, .bool true]) (results_cell_row rfl _ _ w.heap.size 62 #[.int .i64 3, .int .i64 k, .int .i64 i, .int .u64 x, .int .u64 v, .bool true] (0, 0) _ (by simp) M5 Try.underlying62 rfl (by kernel_rfl)) rfl ⟨rfl, R5, S6⟩

theorem r_swap_no (lo hi : Nat) (w : World) (rb : Nat) (q : Cfg) (A : Int → List Int) (h : RefIs lo hi w rb q A) (hout : ∀ k, ¬ (1 ≤ k ∧ k ≤ 8) → A k = []) (k : Int) (hk : 1 ≤ k ∧ k ≤ 8) (i : Nat) (hil : i < (A k).length) (x : Int) (hx : (A k).getD i 0 = x) (o v : Int) (ho : (x == o) = false) : Calls Try.prog 74 #[.pointer (some ⟨rb, 0, none⟩), .int .i64 k, .int .i64 i, .int .u64 o, .int .u64 v] w fun e w' => e = .returned (accV 3 k i x x false) ∧ RefIs lo hi w' rb q (A) ∧ Stay lo hi w w' := by
  have HW0 := Lib.hid (below_new w (.cells #[.int .i64 0, .int .i64 0, .int .i64 0, .int .u64 0, .int .u64 0, .bool false] 62))
  have HM0 := Lib.hid (Mem.new w 62 #[.int .i64 0, .int .i64 0, .int .i64 0, .int .u64 0, .int .u64 0, .bool false])
  have hh := r_has lo hi _ rb q A (h.below HW0.out) hout k i
  rw [decide_eq_true (show 0 ≤ (i : Int) ∧ (i : Int) < (A k).length by omega)] at hh
  have H1 := Lib.hid (h.below HW0.out)
  have htop := h.top
  have hlt := HM0.out.lt
  go_enter Try.func74, Try.ntmps74
  go_upto_region 1 with (fail)
  obtain ⟨W, hW⟩ : ∃ W, w.alloc (.cells #[.int .i64 0, .int .i64 0, .int .i64 0, .int .u64 0, .int .u64 0, .bool false] 62) = W := ⟨_, rfl⟩
  rw [hW] at HW0 HM0 hh H1 hlt ⊢
  clear hW h
  have hg := r_get lo hi W rb q A H1.out k hk i hil x hx
  have hd0 := r_do_get lo hi W rb q A H1.out 3 false rfl k hk i hil x hx v
  go_upto_region 3 with (go_at_call 106; (with_reducible refine hh.mono ?_); rintro e w1 ⟨rfl, rfl⟩)
  go_wp2_with (first | (go_at_call 14; (with_reducible refine hg.mono ?_); rintro e w2 ⟨rfl, rfl⟩) | (go_at_call 107; (with_reducible refine hd0.mono ?_); rintro e w3 ⟨rfl, hR3, hS3⟩; have M1 := (hS3.block w.heap.size hlt (.inr htop)).trans HM0.out; have d0 := Mem.cell M1 0; have d1 := Mem.cell M1 1; have d2 := Mem.cell M1 2; have d3 := Mem.cell M1 3; have d4 := Mem.cell M1 4; have d5 := Mem.cell M1 5; have df := Mem.frozen M1; have HR := Lib.hid hR3; have HS := Lib.hid hS3; clear hR3 hS3))
  have M1 : Mem w3 w.heap.size 62 #[.int .i64 0, .int .i64 0, .int .i64 0, .int .u64 0, .int .u64 0, .bool false] := M1
  obtain ⟨M5, S5⟩ := store6 (gb := w.heap.size) M1 (.int .i64 3) (.int .i64 k) (.int .i64 i) (.int .u64 x) (.int .u64 x) (.bool false)
  have R5 := HR.out.stay S5 (.inl (by omega))
  have S6 := Stay.over ((Stay.of_below HW0.out).trans HS.out) S5 (Nat.le_refl _)
  obtain ⟨V, hV⟩ : ∃ V, ((((((w3.setCell ⟨w.heap.size, 0, none⟩ (.int .i64 3)).setCell ⟨w.heap.size, 1, none⟩ (.int .i64 k)).setCell ⟨w.heap.size, 2, none⟩ (.int .i64 i)).setCell ⟨w.heap.size, 3, none⟩ (.int .u64 x)).setCell ⟨w.heap.size, 4, none⟩ (.int .u64 x)).setCell ⟨w.heap.size, 5, none⟩ (.bool false)) = V := ⟨_, rfl⟩
  rw [hV] at M5 R5 S6 ⊢
  refine bodyPost_ret (v := .agg #[.int .i64 3, .int .i64 k, .int .i64 i, .int .u64 x, .int .u64 x, .bool false]) (results_cell_row rfl _ _ w.heap.size 62 #[.int .i64 3, .int .i64 k, .int .i64 i, .int .u64 x, .int .u64 x, .bool false] (0, 0) _ (by simp) M5 Try.underlying62 rfl (by kernel_rfl)) rfl ⟨rfl, R5, S6⟩

theorem r_swap (lo hi : Nat) (w : World) (rb : Nat) (q : Cfg) (A : Int → List Int) (h : RefIs lo hi w rb q A) (hout : ∀ k, ¬ (1 ≤ k ∧ k ≤ 8) → A k = []) (k : Int) (hk : 1 ≤ k ∧ k ≤ 8) (i : Nat) (hil : i < (A k).length) (x : Int) (hx : (A k).getD i 0 = x) (o v p : Int) (d : Bool) (hp : Hid (p = if x = o then v else x)) (hd : Hid (d = decide (x = o))) :
    Calls Try.prog 74 #[.pointer (some ⟨rb, 0, none⟩), .int .i64 k, .int .i64 i, .int .u64 o, .int .u64 v] w fun e w' => e = .returned (accV 3 k i x p d) ∧ RefIs lo hi w' rb q (upd A k i p) ∧ Stay lo hi w w' := by
  by_cases ho : x = o
  · have e1 : p = v := hp.out.trans (if_pos ho)
    have e2 : d = true := hd.out.trans (decide_eq_true ho)
    rw [e1, e2]
    exact r_swap_yes lo hi w rb q A h hout k hk i hil x hx o v (by simpa using ho)
  · have e1 : p = x := hp.out.trans (if_neg ho)
    have e2 : d = false := hd.out.trans (decide_eq_false ho)
    rw [e1, e2, upd_same hil hx]
    exact r_swap_no lo hi w rb q A h hout k hk i hil x hx o v (by simpa using ho)

theorem r_load_none (lo hi : Nat) (w : World) (rb : Nat) (q : Cfg) (A : Int → List Int) (h : RefIs lo hi w rb q A) (hout : ∀ k, ¬ (1 ≤ k ∧ k ≤ 8) → A k = []) (k i : Int) (hno : ¬ (0 ≤ i ∧ i < (A k).length)) : Calls Try.prog 71 #[.pointer (some ⟨rb, 0, none⟩), .int .i64 k, .int .i64 i] w fun e w' => e = .returned (accV 0 0 0 0 0 false) ∧ RefIs lo hi w' rb q A ∧ Stay lo hi w w' := by
  have HW0 := Lib.hid (below_new w (.cells #[.int .i64 0, .int .i64 0, .int .i64 0, .int .u64 0, .int .u64 0, .bool false] 62))
  have M1 := (Mem.new w 62 #[.int .i64 0, .int .i64 0, .int .i64 0, .int .u64 0, .int .u64 0, .bool false])
  have hh := r_has lo hi _ rb q A (h.below HW0.out) hout k i
  rw [decide_eq_false hno] at hh
  have H1 := Lib.hid (h.below HW0.out)
  have htop := h.top
  have hlt := M1.lt
  go_enter Try.func71, Try.ntmps71
  go_upto_region 1 with (fail)
  obtain ⟨W, hW⟩ : ∃ W, w.alloc (.cells #[.int .i64 0, .int .i64 0, .int .i64 0, .int .u64 0, .int .u64 0, .bool false] 62) = W := ⟨_, rfl⟩
  rw [hW] at HW0 M1 hh H1 hlt ⊢
  clear hW h
  have d0 := M1.cell 0
  have d1 := M1.cell 1
  have d2 := M1.cell 2
  have d3 := M1.cell 3
  have d4 := M1.cell 4
  have d5 := M1.cell 5
  have df := M1.frozen
  have HS := Lib.hid (Stay.of_below (lo := lo) (hi := hi) HW0.out)
  go_wp2_with (go_at_call 106; (with_reducible refine hh.mono ?_); rintro e w1 ⟨rfl, rfl⟩)
  obtain ⟨M5, S5⟩ := store6 (gb := w.heap.size) M1 (.int .i64 0) (.int .i64 0) (.int .i64 0) (.int .u64 0) (.int .u64 0) (.bool false)
  have R5 := H1.out.stay S5 (.inl (by omega))
  have S6 := Stay.over HS.out S5 (Nat.le_refl _)
  obtain ⟨V, hV⟩ : ∃ V, ((((((W.setCell ⟨w.heap.size, 0, none⟩ (.int .i64 0)).setCell ⟨w.heap.size, 1, none⟩ (.int .i64 0)).setCell ⟨w.heap.size, 2, none⟩ (.int .i64 0)).setCell ⟨w.heap.size, 3, none⟩ (.int .u64 0)).setCell ⟨w.heap.size, 4, none⟩ (.int .u64 0)).setCell ⟨w.heap.size, 5, none⟩ (.bool false)) = V := ⟨_, rfl⟩
  rw [hV] at M5 R5 S6 ⊢
  refine bodyPost_ret (v := .agg #[.int .i64 0, .int .i64 0, .int .i64 0, .int .u64 0, .int .u64 0, .bool false]) (results_cell_row rfl _ _ w.heap.size 62 #[.int .i64 0, .int .i64 0, .int .i64 0, .int .u64 0, .int .u64 0, .bool false] (0, 0) _ (by simp) M5 Try.underlying62 rfl (by kernel_rfl)) rfl ⟨rfl, R5, S6⟩

theorem r_store_none (lo hi : Nat) (w : World) (rb : Nat) (q : Cfg) (A : Int → List Int) (h : RefIs lo hi w rb q A) (hout : ∀ k, ¬ (1 ≤ k ∧ k ≤ 8) → A k = []) (k i : Int) (hno : ¬ (0 ≤ i ∧ i < (A k).length)) (v : Int) : Calls Try.prog 73 #[.pointer (some ⟨rb, 0, none⟩), .int .i64 k, .int .i64 i, .int .u64 v] w fun e w' => e = .returned (accV 0 0 0 0 0 false) ∧ RefIs lo hi w' rb q A ∧ Stay lo hi w w' := by
  have HW0 := Lib.hid (below_new w (.cells #[.int .i64 0, .int .i64 0, .int .i64 0, .int .u64 0, .int .u64 0, .bool false] 62))
  have M1 := (Mem.new w 62 #[.int .i64 0, .int .i64 0, .int .i64 0, .int .u64 0, .int .u64 0, .bool false])
  have hh := r_has lo hi _ rb q A (h.below HW0.out) hout k i
  rw [decide_eq_false hno] at hh
  have H1 := Lib.hid (h.below HW0.out)
  have htop := h.top
  have hlt := M1.lt
  go_enter Try.func73, Try.ntmps73
  go_upto_region 1 with (fail)
  obtain ⟨W, hW⟩ : ∃ W, w.alloc (.cells #[.int .i64 0, .int .i64 0, .int .i64 0, .int .u64 0, .int .u64 0, .bool false] 62) = W := ⟨_, rfl⟩
  rw [hW] at HW0 M1 hh H1 hlt ⊢
  clear hW h
  have d0 := M1.cell 0
  have d1 := M1.cell 1
  have d2 := M1.cell 2
  have d3 := M1.cell 3
  have d4 := M1.cell 4
  have d5 := M1.cell 5
  have df := M1.frozen
  have HS := Lib.hid (Stay.of_below (lo := lo) (hi := hi) HW0.out)
  go_wp2_with (go_at_call 106; (with_reducible refine hh.mono ?_); rintro e w1 ⟨rfl, rfl⟩)
  obtain ⟨M5, S5⟩ := store6 (gb := w.heap.size) M1 (.int .i64 0) (.int .i64 0) (.int .i64 0) (.int .u64 0) (.int .u64 0) (.bool false)
  have R5 := H1.out.stay S5 (.inl (by omega))
  have S6 := Stay.over HS.out S5 (Nat.le_refl _)
  obtain ⟨V, hV⟩ : ∃ V, ((((((W.setCell ⟨w.heap.size, 0, none⟩ (.int .i64 0)).setCell ⟨w.heap.size, 1, none⟩ (.int .i64 0)).setCell ⟨w.heap.size, 2, none⟩ (.int .i64 0)).setCell ⟨w.heap.size, 3, none⟩ (.int .u64 0)).setCell ⟨w.heap.size, 4, none⟩ (.int .u64 0)).setCell ⟨w.heap.size, 5, none⟩ (.bool false)) = V := ⟨_, rfl⟩
  rw [hV] at M5 R5 S6 ⊢
  refine bodyPost_ret (v := .agg #[.int .i64 0, .int .i64 0, .int .i64 0, .int .u64 0, .int .u64 0, .bool false]) (results_cell_row rfl _ _ w.heap.size 62 #[.int .i64 0, .int .i64 0, .int .i64 0, .int .u64 0, .int .u64 0, .bool false] (0, 0) _ (by simp) M5 Try.underlying62 rfl (by kernel_rfl)) rfl ⟨rfl, R5, S6⟩

theorem r_swap_none (lo hi : Nat) (w : World) (rb : Nat) (q : Cfg) (A : Int → List Int) (h : RefIs lo hi w rb q A) (hout : ∀ k, ¬ (1 ≤ k ∧ k ≤ 8) → A k = []) (k i : Int) (hno : ¬ (0 ≤ i ∧ i < (A k).length)) (o v : Int) : Calls Try.prog 74 #[.pointer (some ⟨rb, 0, none⟩), .int .i64 k, .int .i64 i, .int .u64 o, .int .u64 v] w fun e w' => e = .returned (accV 0 0 0 0 0 false) ∧ RefIs lo hi w' rb q A ∧ Stay lo hi w w' := by
  have HW0 := Lib.hid (below_new w (.cells #[.int .i64 0, .int .i64 0, .int .i64 0, .int .u64 0, .int .u64 0, .bool false] 62))
  have M1 := (Mem.new w 62 #[.int .i64 0, .int .i64 0, .int .i64 0, .int .u64 0, .int .u64 0, .bool false])
  have hh := r_has lo hi _ rb q A (h.below HW0.out) hout k i
  rw [decide_eq_false hno] at hh
  have H1 := Lib.hid (h.below HW0.out)
  have htop := h.top
  have hlt := M1.lt
  go_enter Try.func74, Try.ntmps74
  go_upto_region 1 with (fail)
  obtain ⟨W, hW⟩ : ∃ W, w.alloc (.cells #[.int .i64 0, .int .i64 0, .int .i64 0, .int .u64 0, .int .u64 0, .bool false] 62) = W := ⟨_, rfl⟩
  rw [hW] at HW0 M1 hh H1 hlt ⊢
  clear hW h
  have d0 := M1.cell 0
  have d1 := M1.cell 1
  have d2 := M1.cell 2
  have d3 := M1.cell 3
  have d4 := M1.cell 4
  have d5 := M1.cell 5
  have df := M1.frozen
  have HS := Lib.hid (Stay.of_below (lo := lo) (hi := hi) HW0.out)
  go_wp2_with (go_at_call 106; (with_reducible refine hh.mono ?_); rintro e w1 ⟨rfl, rfl⟩)
  obtain ⟨M5, S5⟩ := store6 (gb := w.heap.size) M1 (.int .i64 0) (.int .i64 0) (.int .i64 0) (.int .u64 0) (.int .u64 0) (.bool false)
  have R5 := H1.out.stay S5 (.inl (by omega))
  have S6 := Stay.over HS.out S5 (Nat.le_refl _)
  obtain ⟨V, hV⟩ : ∃ V, ((((((W.setCell ⟨w.heap.size, 0, none⟩ (.int .i64 0)).setCell ⟨w.heap.size, 1, none⟩ (.int .i64 0)).setCell ⟨w.heap.size, 2, none⟩ (.int .i64 0)).setCell ⟨w.heap.size, 3, none⟩ (.int .u64 0)).setCell ⟨w.heap.size, 4, none⟩ (.int .u64 0)).setCell ⟨w.heap.size, 5, none⟩ (.bool false)) = V := ⟨_, rfl⟩
  rw [hV] at M5 R5 S6 ⊢
  refine bodyPost_ret (v := .agg #[.int .i64 0, .int .i64 0, .int .i64 0, .int .u64 0, .int .u64 0, .bool false]) (results_cell_row rfl _ _ w.heap.size 62 #[.int .i64 0, .int .i64 0, .int .i64 0, .int .u64 0, .int .u64 0, .bool false] (0, 0) _ (by simp) M5 Try.underlying62 rfl (by kernel_rfl)) rfl ⟨rfl, R5, S6⟩

theorem r_add_none (lo hi : Nat) (w : World) (rb : Nat) (q : Cfg) (A : Int → List Int) (h : RefIs lo hi w rb q A) (hout : ∀ k, ¬ (1 ≤ k ∧ k ≤ 8) → A k = []) (k i : Int) (hno : ¬ (0 ≤ i ∧ i < (A k).length)) (v : Int) : Calls Try.prog 75 #[.pointer (some ⟨rb, 0, none⟩), .int .i64 k, .int .i64 i, .int .u64 v] w fun e w' => e = .returned (accV 0 0 0 0 0 false) ∧ RefIs lo hi w' rb q A ∧ Stay lo hi w w' := by
  have HW0 := Lib.hid (below_new w (.cells #[.int .i64 0, .int .i64 0, .int .i64 0, .int .u64 0, .int .u64 0, .bool false] 62))
  have M1 := (Mem.new w 62 #[.int .i64 0, .int .i64 0, .int .i64 0, .int .u64 0, .int .u64 0, .bool false])
  have hh := r_has lo hi _ rb q A (h.below HW0.out) hout k i
  rw [decide_eq_false hno] at hh
  have H1 := Lib.hid (h.below HW0.out)
  have htop := h.top
  have hlt := M1.lt
  go_enter Try.func75, Try.ntmps75
  go_upto_region 1 with (fail)
  obtain ⟨W, hW⟩ : ∃ W, w.alloc (.cells #[.int .i64 0, .int .i64 0, .int .i64 0, .int .u64 0, .int .u64 0, .bool false] 62) = W := ⟨_, rfl⟩
  rw [hW] at HW0 M1 hh H1 hlt ⊢
  clear hW h
  have d0 := M1.cell 0
  have d1 := M1.cell 1
  have d2 := M1.cell 2
  have d3 := M1.cell 3
  have d4 := M1.cell 4
  have d5 := M1.cell 5
  have df := M1.frozen
  have HS := Lib.hid (Stay.of_below (lo := lo) (hi := hi) HW0.out)
  go_wp2_with (go_at_call 106; (with_reducible refine hh.mono ?_); rintro e w1 ⟨rfl, rfl⟩)
  obtain ⟨M5, S5⟩ := store6 (gb := w.heap.size) M1 (.int .i64 0) (.int .i64 0) (.int .i64 0) (.int .u64 0) (.int .u64 0) (.bool false)
  have R5 := H1.out.stay S5 (.inl (by omega))
  have S6 := Stay.over HS.out S5 (Nat.le_refl _)
  obtain ⟨V, hV⟩ : ∃ V, ((((((W.setCell ⟨w.heap.size, 0, none⟩ (.int .i64 0)).setCell ⟨w.heap.size, 1, none⟩ (.int .i64 0)).setCell ⟨w.heap.size, 2, none⟩ (.int .i64 0)).setCell ⟨w.heap.size, 3, none⟩ (.int .u64 0)).setCell ⟨w.heap.size, 4, none⟩ (.int .u64 0)).setCell ⟨w.heap.size, 5, none⟩ (.bool false)) = V := ⟨_, rfl⟩
  rw [hV] at M5 R5 S6 ⊢
  refine bodyPost_ret (v := .agg #[.int .i64 0, .int .i64 0, .int .i64 0, .int .u64 0, .int .u64 0, .bool false]) (results_cell_row rfl _ _ w.heap.size 62 #[.int .i64 0, .int .i64 0, .int .i64 0, .int .u64 0, .int .u64 0, .bool false] (0, 0) _ (by simp) M5 Try.underlying62 rfl (by kernel_rfl)) rfl ⟨rfl, R5, S6⟩

end Go.Proofs.Ytpjbmbipkmpkhaa.CelLo
