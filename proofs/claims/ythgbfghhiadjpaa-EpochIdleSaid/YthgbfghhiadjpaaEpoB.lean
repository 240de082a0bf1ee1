/-
  Contracts of the reference of layer 9: Leave, Enter.
-/
import Derived.Test.YthgbfghhiadjpaaLabS
import Derived.Test.YthgbfghhiadjpaaWordE
namespace Go.Proofs.Ythgbfghhiadjpaa.EpoB
open Go.ChangeShapes Go.WideShapes Go.ChangeAt Go.RowKit
open PlainT BlkW LayS LayA CelS CelM CelP CelV CelN CelO CelF LabD LabR LabP LabS WordC
set_option linter.unusedVariables false
set_option maxHeartbeats 1000000
set_option maxRecDepth 100000

theorem s_leave {lo hi b rb : Nat} {w : World} {q : Cfg} {A B : Int → List Int} (h : Duo lo hi w b rb q A B) (i : Nat) (hlt : i < (B 6).length) (x : Int) (hx : (B 6).getD i 0 = x) : Calls Try.prog 45 #[.pointer (some ⟨rb, 0, none⟩), .int .i64 i] w fun e w' => e = .returned (accV 2 6 i x 0 true) ∧ Duo lo hi w' b rb q A (upd B 6 i 0) ∧ Stay lo hi w w' := by
  have htop := h.top
  have R0 := Lib.hid (Mem.new w 57 #[.int .i64 0, .int .i64 0, .int .i64 0, .int .u64 0, .int .u64 0, .bool false])
  have D0 := Lib.hid (h.alloc (.cells #[.int .i64 0, .int .i64 0, .int .i64 0, .int .u64 0, .int .u64 0, .bool false] 57))
  have F0 := Lib.hid ((Fr.refl (PI lo hi) w).alloc (.cells #[.int .i64 0, .int .i64 0, .int .i64 0, .int .u64 0, .int .u64 0, .bool false] 57))
  have hrw := R0.out.lt
  clear h
  go_enter Try.func45, Try.ntmps45
  go_upto_region 1 with (fail)
  obtain ⟨W0, hW⟩ : ∃ W', w.alloc (.cells #[.int .i64 0, .int .i64 0, .int .i64 0, .int .u64 0, .int .u64 0, .bool false] 57) = W' := ⟨_, rfl⟩
  rw [hW] at R0 D0 F0
  first | rw [hW] | skip
  clear hW
  have hc := s_store D0.out 6 (by decide) i hlt x hx 0
  go_wp2_with ((go_at_call 76; refine hc.mono ?_; rintro e w9 ⟨rfl, hD, hS⟩; have r0 := Mem.of_eq R0.out (hS.block w.heap.size R0.out.lt (.inr htop)); have r0_0 := Mem.cell r0 0; have r0_1 := Mem.cell r0 1; have r0_2 := Mem.cell r0 2; have r0_3 := Mem.cell r0 3; have r0_4 := Mem.cell r0 4; have r0_5 := Mem.cell r0 5; have r0_z := Mem.frozen r0))
  have R1 := Lib.hid (Mem.of_eq R0.out (hS.block w.heap.size R0.out.lt (.inr htop)))
  have D1 := Lib.hid (hD)
  have F1 := Lib.hid (F0.out.trans (Fr.of_stay hS fun x a c => ⟨a, c⟩))
  obtain ⟨M5, S5⟩ := store6 R1.out (.int .i64 2) (.int .i64 6) (.int .i64 i) (.int .u64 x) (.int .u64 0) (.bool true)
  have D5 := D1.out.fr (P := fun x => x = w.heap.size) (Fr.of_stay S5 fun x a c => by omega) fun x a c => by omega
  have F5 := Fr.then (Q := fun x => x = w.heap.size) F1.out (Fr.of_stay S5 fun x a c => by omega) fun x a c => by omega
  obtain ⟨V, hV⟩ : ∃ V, ((((((w9.setCell ⟨w.heap.size, 0, none⟩ (.int .i64 2)).setCell ⟨w.heap.size, 1, none⟩ (.int .i64 6)).setCell ⟨w.heap.size, 2, none⟩ (.int .i64 i)).setCell ⟨w.heap.size, 3, none⟩ (.int .u64 x)).setCell ⟨w.heap.size, 4, none⟩ (.int .u64 0)).setCell ⟨w.heap.size, 5, none⟩ (.bool true)) = V := ⟨_, rfl⟩
  rw [hV] at M5 D5 F5 ⊢
  refine bodyPost_ret (v := .agg #[.int .i64 2, .int .i64 6, .int .i64 i, .int .u64 x, .int .u64 0, .bool true]) (results_cell_row rfl _ _ w.heap.size 57 #[.int .i64 2, .int .i64 6, .int .i64 i, .int .u64 x, .int .u64 0, .bool true] (0, 0) _ (by simp) M5 Try.underlying57 rfl (by kernel_rfl)) rfl ⟨rfl, D5, F5.stay⟩

theorem s_step0 {lo hi b rb : Nat} {w : World} {q : Cfg} {A B : Int → List Int} (h : Duo lo hi w b rb q A B) {g : Nat} (hg : g < lo ∨ hi ≤ g) (s : Int) (i : Nat) (hlt : i < (B 6).length) (x : Int) (hx : (B 6).getD i 0 = x) (M : Mem w g 78 #[.int .i64 i, .int .i64 0, .int .i64 s]) : Calls Try.prog 42 #[.pointer (some ⟨g, 0, none⟩), .pointer (some ⟨rb, 0, none⟩)] w fun e w' => e = .returned (accV 2 6 i x 1 true) ∧ Duo lo hi w' b rb q A (upd B 6 i 1) ∧ Mem w' g 78 #[.int .i64 i, .int .i64 1, .int .i64 s] ∧ Fr (PG lo hi g) w w' := by
  have htop := h.top
  have R0 := Lib.hid (Mem.new w 57 #[.int .i64 0, .int .i64 0, .int .i64 0, .int .u64 0, .int .u64 0, .bool false])
  have G0 := Lib.hid (M.alloc (.cells #[.int .i64 0, .int .i64 0, .int .i64 0, .int .u64 0, .int .u64 0, .bool false] 57))
  have D0 := Lib.hid (h.alloc (.cells #[.int .i64 0, .int .i64 0, .int .i64 0, .int .u64 0, .int .u64 0, .bool false] 57))
  have F0 := Lib.hid ((Fr.refl (PG lo hi g) w).alloc (.cells #[.int .i64 0, .int .i64 0, .int .i64 0, .int .u64 0, .int .u64 0, .bool false] 57))
  have hgw := M.lt
  have hrw := R0.out.lt
  clear h M
  go_enter Try.func42, Try.ntmps42
  go_upto_region 1 with (fail)
  obtain ⟨W0, hW⟩ : ∃ W', w.alloc (.cells #[.int .i64 0, .int .i64 0, .int .i64 0, .int .u64 0, .int .u64 0, .bool false] 57) = W' := ⟨_, rfl⟩
  rw [hW] at R0 G0 D0 F0
  first | rw [hW] | skip
  clear hW
  have g0_0 := Mem.cell G0.out 0
  have g0_1 := Mem.cell G0.out 1
  have g0_2 := Mem.cell G0.out 2
  have g0_z := G0.out.frozen
  simp at g0_0 g0_1 g0_2
  go_upto_region 2 with (fail)
  have G1 : Hid (Mem (W0.setCell ⟨g, 1, none⟩ (.int .i64 1)) g 78 #[.int .i64 i, .int .i64 1, .int .i64 s]) := Lib.hid (by have := G0.out.set_ 1 (.int .i64 1); simpa using this)
  have R1 := Lib.hid (R0.out.far (a := ⟨g, 1, none⟩) (by show w.heap.size ≠ g; omega) (.int .i64 1))
  have D1 := Lib.hid (D0.out.set_ ⟨g, 1, none⟩ hg (.int .i64 1))
  have F1 := Lib.hid (F0.out.set_ ⟨g, 1, none⟩ (.inl (.inr rfl)) (.int .i64 1))
  obtain ⟨W1, hW⟩ : ∃ W', W0.setCell ⟨g, 1, none⟩ (.int .i64 1) = W' := ⟨_, rfl⟩
  rw [hW] at R1 G1 D1 F1
  first | rw [hW] | skip
  clear hW
  clear g0_0 g0_1 g0_2 g0_z R0 G0 D0 F0
  have g1_0 := Mem.cell G1.out 0
  have g1_1 := Mem.cell G1.out 1
  have g1_2 := Mem.cell G1.out 2
  have g1_z := G1.out.frozen
  simp at g1_0 g1_1 g1_2
  have hc := s_store D1.out 6 (by decide) i hlt x hx 1
  go_wp2_with ((go_at_call 76; refine hc.mono ?_; rintro e w9 ⟨rfl, hD, hS⟩; have r0 := Mem.of_eq R1.out (hS.block w.heap.size R1.out.lt (.inr htop)); have r0_0 := Mem.cell r0 0; have r0_1 := Mem.cell r0 1; have r0_2 := Mem.cell r0 2; have r0_3 := Mem.cell r0 3; have r0_4 := Mem.cell r0 4; have r0_5 := Mem.cell r0 5; have r0_z := Mem.frozen r0))
  have R2 := Lib.hid (Mem.of_eq R1.out (hS.block w.heap.size R1.out.lt (.inr htop)))
  have G2 := Lib.hid (Mem.of_eq G1.out (hS.block g G1.out.lt hg))
  have D2 := Lib.hid (hD)
  have F2 := Lib.hid (F1.out.trans (Fr.of_stay hS fun x a c => .inl ⟨a, c⟩))
  obtain ⟨M5, S5⟩ := store6 R2.out (.int .i64 2) (.int .i64 6) (.int .i64 i) (.int .u64 x) (.int .u64 1) (.bool true)
  have D5 := D2.out.fr (P := fun x => x = w.heap.size) (Fr.of_stay S5 fun x a c => by omega) fun x a c => by omega
  have G5 := mem_fr (P := fun x => x = w.heap.size) G2.out (Fr.of_stay S5 fun x a c => by omega) (by omega)
  have F5 := Fr.then (Q := fun x => x = w.heap.size) F2.out (Fr.of_stay S5 fun x a c => by omega) fun x a c => by omega
  obtain ⟨V, hV⟩ : ∃ V, ((((((w9.setCell ⟨w.heap.size, 0, none⟩ (.int .i64 2)).setCell ⟨w.heap.size, 1, none⟩ (.int .i64 6)).setCell ⟨w.heap.size, 2, none⟩ (.int .i64 i)).setCell ⟨w.heap.size, 3, none⟩ (.int .u64 x)).setCell ⟨w.heap.size, 4, none⟩ (.int .u64 1)).setCell ⟨w.heap.size, 5, none⟩ (.bool true)) = V := ⟨_, rfl⟩
  rw [hV] at M5 D5 F5 G5 ⊢
  refine bodyPost_ret (v := .agg #[.int .i64 2, .int .i64 6, .int .i64 i, .int .u64 x, .int .u64 1, .bool true]) (results_cell_row rfl _ _ w.heap.size 57 #[.int .i64 2, .int .i64 6, .int .i64 i, .int .u64 x, .int .u64 1, .bool true] (0, 0) _ (by simp) M5 Try.underlying57 rfl (by kernel_rfl)) rfl ⟨rfl, D5, G5, F5⟩

theorem s_step1 {lo hi b rb : Nat} {w : World} {q : Cfg} {A B : Int → List Int} (h : Duo lo hi w b rb q A B) {g : Nat} (hg : g < lo ∨ hi ≤ g) (i : Nat) (s : Int) (c : Int) (hl : 0 < (B 3).length) (hx : (B 3).getD 0 0 = c) (h0 : 0 ≤ c) (h1 : c ≤ 1099511627776) (M : Mem w g 78 #[.int .i64 i, .int .i64 1, .int .i64 s]) : Calls Try.prog 42 #[.pointer (some ⟨g, 0, none⟩), .pointer (some ⟨rb, 0, none⟩)] w fun e w' => e = .returned (accV 1 3 0 c c true) ∧ Duo lo hi w' b rb q A B ∧ Mem w' g 78 #[.int .i64 i, .int .i64 2, .int .i64 c] ∧ Fr (PG lo hi g) w w' := by
  have htop := h.top
  have R0 := Lib.hid (Mem.new w 57 #[.int .i64 0, .int .i64 0, .int .i64 0, .int .u64 0, .int .u64 0, .bool false])
  have G0 := Lib.hid (M.alloc (.cells #[.int .i64 0, .int .i64 0, .int .i64 0, .int .u64 0, .int .u64 0, .bool false] 57))
  have D0 := Lib.hid (h.alloc (.cells #[.int .i64 0, .int .i64 0, .int .i64 0, .int .u64 0, .int .u64 0, .bool false] 57))
  have F0 := Lib.hid ((Fr.refl (PG lo hi g) w).alloc (.cells #[.int .i64 0, .int .i64 0, .int .i64 0, .int .u64 0, .int .u64 0, .bool false] 57))
  have hgw := M.lt
  have hrw := R0.out.lt
  clear h M
  go_enter Try.func42, Try.ntmps42
  go_upto_region 1 with (fail)
  obtain ⟨W0, hW⟩ : ∃ W', w.alloc (.cells #[.int .i64 0, .int .i64 0, .int .i64 0, .int .u64 0, .int .u64 0, .bool false] 57) = W' := ⟨_, rfl⟩
  rw [hW] at R0 G0 D0 F0
  first | rw [hW] | skip
  clear hW
  have g0_0 := Mem.cell G0.out 0
  have g0_1 := Mem.cell G0.out 1
  have g0_2 := Mem.cell G0.out 2
  have g0_z := G0.out.frozen
  simp at g0_0 g0_1 g0_2
  go_upto_region 2 with (fail)
  have G1 : Hid (Mem (W0.setCell ⟨g, 1, none⟩ (.int .i64 2)) g 78 #[.int .i64 i, .int .i64 2, .int .i64 s]) := Lib.hid (by have := G0.out.set_ 1 (.int .i64 2); simpa using this)
  have R1 := Lib.hid (R0.out.far (a := ⟨g, 1, none⟩) (by show w.heap.size ≠ g; omega) (.int .i64 2))
  have D1 := Lib.hid (D0.out.set_ ⟨g, 1, none⟩ hg (.int .i64 2))
  have F1 := Lib.hid (F0.out.set_ ⟨g, 1, none⟩ (.inl (.inr rfl)) (.int .i64 2))
  obtain ⟨W1, hW⟩ : ∃ W', W0.setCell ⟨g, 1, none⟩ (.int .i64 2) = W' := ⟨_, rfl⟩
  rw [hW] at R1 G1 D1 F1
  first | rw [hW] | skip
  clear hW
  clear g0_0 g0_1 g0_2 g0_z R0 G0 D0 F0
  have g1_0 := Mem.cell G1.out 0
  have g1_1 := Mem.cell G1.out 1
  have g1_2 := Mem.cell G1.out 2
  have g1_z := G1.out.frozen
  simp at g1_0 g1_1 g1_2
  have hc := s_load D1.out 3 (by decide) 0 hl c hx
  go_upto_region 7 with ((go_at_call 75; refine hc.mono ?_; rintro e w1' ⟨rfl, hD, hS⟩))
  have R2 := Lib.hid ((Mem.of_eq R1.out (hS.block w.heap.size R1.out.lt (.inr htop))).alloc (.cells #[.int .i64 1, .int .i64 3, .int .i64 0, .int .u64 c, .int .u64 c, .bool true] 57))
  have G2 := Lib.hid ((Mem.of_eq G1.out (hS.block g G1.out.lt hg)).alloc (.cells #[.int .i64 1, .int .i64 3, .int .i64 0, .int .u64 c, .int .u64 c, .bool true] 57))
  have D2 := Lib.hid ((hD).alloc (.cells #[.int .i64 1, .int .i64 3, .int .i64 0, .int .u64 c, .int .u64 c, .bool true] 57))
  have F2 := Lib.hid ((F1.out.trans (Fr.of_stay hS fun x a c => .inl ⟨a, c⟩)).alloc (.cells #[.int .i64 1, .int .i64 3, .int .i64 0, .int .u64 c, .int .u64 c, .bool true] 57))
  have HA2 := Lib.hid (Mem.new w1' 57 #[.int .i64 1, .int .i64 3, .int .i64 0, .int .u64 c, .int .u64 c, .bool true])
  have hgat : hi ≤ w1'.heap.size := hD.top
  have hgag : g < w1'.heap.size := Nat.lt_of_lt_of_le G1.out.lt hS.size
  have hgaw : w.heap.size < w1'.heap.size := Nat.lt_of_lt_of_le R1.out.lt hS.size
  obtain ⟨ga, hga⟩ : ∃ ga, w1'.heap.size = ga := ⟨_, rfl⟩
  rw [hga] at HA2 hgat hgaw hgag
  first | rw [hga] | skip
  clear hc hD hS hga
  obtain ⟨W2, hW⟩ : ∃ W', w1'.alloc (.cells #[.int .i64 1, .int .i64 3, .int .i64 0, .int .u64 c, .int .u64 c, .bool true] 57) = W' := ⟨_, rfl⟩
  rw [hW] at R2 G2 D2 F2 HA2
  first | rw [hW] | skip
  clear hW
  clear g1_0 g1_1 g1_2 g1_z R1 G1 D1 F1
  have g2_0 := Mem.cell G2.out 0
  have g2_1 := Mem.cell G2.out 1
  have g2_2 := Mem.cell G2.out 2
  have g2_z := G2.out.frozen
  have a2_0 := Mem.cell HA2.out 0
  have a2_1 := Mem.cell HA2.out 1
  have a2_2 := Mem.cell HA2.out 2
  have a2_3 := Mem.cell HA2.out 3
  have a2_4 := Mem.cell HA2.out 4
  have a2_5 := Mem.cell HA2.out 5
  simp at g2_0 g2_1 g2_2 a2_0 a2_1 a2_2 a2_3 a2_4 a2_5
  go_upto_region 8 with (fail)
  have G3 : Hid (Mem (W2.setCell ⟨g, 2, none⟩ (.int .i64 c)) g 78 #[.int .i64 i, .int .i64 2, .int .i64 c]) := Lib.hid (by have := G2.out.set_ 2 (.int .i64 c); simpa using this)
  have R3 := Lib.hid (R2.out.far (a := ⟨g, 2, none⟩) (by show w.heap.size ≠ g; omega) (.int .i64 c))
  have D3 := Lib.hid (D2.out.set_ ⟨g, 2, none⟩ hg (.int .i64 c))
  have F3 := Lib.hid (F2.out.set_ ⟨g, 2, none⟩ (.inl (.inr rfl)) (.int .i64 c))
  have HA3 := Lib.hid (HA2.out.far (a := ⟨g, 2, none⟩) (by show ga ≠ g; omega) (.int .i64 c))
  obtain ⟨W3, hW⟩ : ∃ W', W2.setCell ⟨g, 2, none⟩ (.int .i64 c) = W' := ⟨_, rfl⟩
  rw [hW] at R3 G3 D3 F3 HA3
  first | rw [hW] | skip
  clear hW
  clear g2_0 g2_1 g2_2 a2_0 a2_1 a2_2 a2_3 a2_4 a2_5 g2_z R2 G2 D2 F2 HA2
  have g3_0 := Mem.cell G3.out 0
  have g3_1 := Mem.cell G3.out 1
  have g3_2 := Mem.cell G3.out 2
  have g3_z := G3.out.frozen
  have a3_0 := Mem.cell HA3.out 0
  have a3_1 := Mem.cell HA3.out 1
  have a3_2 := Mem.cell HA3.out 2
  have a3_3 := Mem.cell HA3.out 3
  have a3_4 := Mem.cell HA3.out 4
  have a3_5 := Mem.cell HA3.out 5
  simp at g3_0 g3_1 g3_2 a3_0 a3_1 a3_2 a3_3 a3_4 a3_5
  have r0_0 := Mem.cell R3.out 0
  have r0_1 := Mem.cell R3.out 1
  have r0_2 := Mem.cell R3.out 2
  have r0_3 := Mem.cell R3.out 3
  have r0_4 := Mem.cell R3.out 4
  have r0_5 := Mem.cell R3.out 5
  have r0_z := R3.out.frozen
  go_wp2
  obtain ⟨M5, S5⟩ := store6 R3.out (.int .i64 1) (.int .i64 3) (.int .i64 0) (.int .u64 c) (.int .u64 c) (.bool true)
  have D5 := D3.out.fr (P := fun x => x = w.heap.size) (Fr.of_stay S5 fun x a c => by omega) fun x a c => by omega
  have G5 := mem_fr (P := fun x => x = w.heap.size) G3.out (Fr.of_stay S5 fun x a c => by omega) (by omega)
  have F5 := Fr.then (Q := fun x => x = w.heap.size) F3.out (Fr.of_stay S5 fun x a c => by omega) fun x a c => by omega
  obtain ⟨V, hV⟩ : ∃ V, ((((((W3.setCell ⟨w.heap.size, 0, none⟩ (.int .i64 1)).setCell ⟨w.heap.size, 1, none⟩ (.int .i64 3)).setCell ⟨w.heap.size, 2, none⟩ (.int .i64 0)).setCell ⟨w.heap.size, 3, none⟩ (.int .u64 c)).setCell ⟨w.heap.size, 4, none⟩ (.int .u64 c)).setCell ⟨w.heap.size, 5, none⟩ (.bool true)) = V := ⟨_, rfl⟩
  rw [hV] at M5 D5 F5 G5 ⊢
  refine bodyPost_ret (v := .agg #[.int .i64 1, .int .i64 3, .int .i64 0, .int .u64 c, .int .u64 c, .bool true]) (results_cell_row rfl _ _ w.heap.size 57 #[.int .i64 1, .int .i64 3, .int .i64 0, .int .u64 c, .int .u64 c, .bool true] (0, 0) _ (by simp) M5 Try.underlying57 rfl (by kernel_rfl)) rfl ⟨rfl, D5, G5, F5⟩

theorem s_step2 {lo hi b rb : Nat} {w : World} {q : Cfg} {A B : Int → List Int} (h : Duo lo hi w b rb q A B) {g : Nat} (hg : g < lo ∨ hi ≤ g) (i : Nat) (hlt : i < (B 6).length) (x : Int) (hx : (B 6).getD i 0 = x) (c : Int) (h0 : 0 ≤ c) (h1 : c ≤ 1099511627776) (M : Mem w g 78 #[.int .i64 i, .int .i64 2, .int .i64 c]) : Calls Try.prog 42 #[.pointer (some ⟨g, 0, none⟩), .pointer (some ⟨rb, 0, none⟩)] w fun e w' => e = .returned (accV 2 6 i x ((c + 2)) true) ∧ Duo lo hi w' b rb q A (upd B 6 i (c + 2)) ∧ Mem w' g 78 #[.int .i64 i, .int .i64 3, .int .i64 c] ∧ Fr (PG lo hi g) w w' := by
  have htop := h.top
  have R0 := Lib.hid (Mem.new w 57 #[.int .i64 0, .int .i64 0, .int .i64 0, .int .u64 0, .int .u64 0, .bool false])
  have G0 := Lib.hid (M.alloc (.cells #[.int .i64 0, .int .i64 0, .int .i64 0, .int .u64 0, .int .u64 0, .bool false] 57))
  have D0 := Lib.hid (h.alloc (.cells #[.int .i64 0, .int .i64 0, .int .i64 0, .int .u64 0, .int .u64 0, .bool false] 57))
  have F0 := Lib.hid ((Fr.refl (PG lo hi g) w).alloc (.cells #[.int .i64 0, .int .i64 0, .int .i64 0, .int .u64 0, .int .u64 0, .bool false] 57))
  have hgw := M.lt
  have hrw := R0.out.lt
  clear h M
  go_enter Try.func42, Try.ntmps42
  go_upto_region 1 with (fail)
  obtain ⟨W0, hW⟩ : ∃ W', w.alloc (.cells #[.int .i64 0, .int .i64 0, .int .i64 0, .int .u64 0, .int .u64 0, .bool false] 57) = W' := ⟨_, rfl⟩
  rw [hW] at R0 G0 D0 F0
  first | rw [hW] | skip
  clear hW
  have g0_0 := Mem.cell G0.out 0
  have g0_1 := Mem.cell G0.out 1
  have g0_2 := Mem.cell G0.out 2
  have g0_z := G0.out.frozen
  simp at g0_0 g0_1 g0_2
  go_upto_region 2 with (fail)
  have G1 : Hid (Mem (W0.setCell ⟨g, 1, none⟩ (.int .i64 3)) g 78 #[.int .i64 i, .int .i64 3, .int .i64 c]) := Lib.hid (by have := G0.out.set_ 1 (.int .i64 3); simpa using this)
  have R1 := Lib.hid (R0.out.far (a := ⟨g, 1, none⟩) (by show w.heap.size ≠ g; omega) (.int .i64 3))
  have D1 := Lib.hid (D0.out.set_ ⟨g, 1, none⟩ hg (.int .i64 3))
  have F1 := Lib.hid (F0.out.set_ ⟨g, 1, none⟩ (.inl (.inr rfl)) (.int .i64 3))
  obtain ⟨W1, hW⟩ : ∃ W', W0.setCell ⟨g, 1, none⟩ (.int .i64 3) = W' := ⟨_, rfl⟩
  rw [hW] at R1 G1 D1 F1
  first | rw [hW] | skip
  clear hW
  clear g0_0 g0_1 g0_2 g0_z R0 G0 D0 F0
  have g1_0 := Mem.cell G1.out 0
  have g1_1 := Mem.cell G1.out 1
  have g1_2 := Mem.cell G1.out 2
  have g1_z := G1.out.frozen
  simp at g1_0 g1_1 g1_2
  have hc := s_store D1.out 6 (by decide) i hlt x hx (c + 2)
  go_wp2_with (first | (go_at_call 88; refine (r_active c h0 h1 _).mono ?_; rintro e w8 ⟨rfl, rfl⟩) | (go_at_call 76; refine hc.mono ?_; rintro e w9 ⟨rfl, hD, hS⟩; have r0 := Mem.of_eq R1.out (hS.block w.heap.size R1.out.lt (.inr htop)); have r0_0 := Mem.cell r0 0; have r0_1 := Mem.cell r0 1; have r0_2 := Mem.cell r0 2; have r0_3 := Mem.cell r0 3; have r0_4 := Mem.cell r0 4; have r0_5 := Mem.cell r0 5; have r0_z := Mem.frozen r0))
  have R2 := Lib.hid (Mem.of_eq R1.out (hS.block w.heap.size R1.out.lt (.inr htop)))
  have G2 := Lib.hid (Mem.of_eq G1.out (hS.block g G1.out.lt hg))
  have D2 := Lib.hid (hD)
  have F2 := Lib.hid (F1.out.trans (Fr.of_stay hS fun x a c => .inl ⟨a, c⟩))
  obtain ⟨M5, S5⟩ := store6 R2.out (.int .i64 2) (.int .i64 6) (.int .i64 i) (.int .u64 x) (.int .u64 (c + 2)) (.bool true)
  have D5 := D2.out.fr (P := fun x => x = w.heap.size) (Fr.of_stay S5 fun x a c => by omega) fun x a c => by omega
  have G5 := mem_fr (P := fun x => x = w.heap.size) G2.out (Fr.of_stay S5 fun x a c => by omega) (by omega)
  have F5 := Fr.then (Q := fun x => x = w.heap.size) F2.out (Fr.of_stay S5 fun x a c => by omega) fun x a c => by omega
  obtain ⟨V, hV⟩ : ∃ V, ((((((w9.setCell ⟨w.heap.size, 0, none⟩ (.int .i64 2)).setCell ⟨w.heap.size, 1, none⟩ (.int .i64 6)).setCell ⟨w.heap.size, 2, none⟩ (.int .i64 i)).setCell ⟨w.heap.size, 3, none⟩ (.int .u64 x)).setCell ⟨w.heap.size, 4, none⟩ (.int .u64 (c + 2))).setCell ⟨w.heap.size, 5, none⟩ (.bool true)) = V := ⟨_, rfl⟩
  rw [hV] at M5 D5 F5 G5 ⊢
  refine bodyPost_ret (v := .agg #[.int .i64 2, .int .i64 6, .int .i64 i, .int .u64 x, .int .u64 (c + 2), .bool true]) (results_cell_row rfl _ _ w.heap.size 57 #[.int .i64 2, .int .i64 6, .int .i64 i, .int .u64 x, .int .u64 (c + 2), .bool true] (0, 0) _ (by simp) M5 Try.underlying57 rfl (by kernel_rfl)) rfl ⟨rfl, D5, G5, F5⟩

theorem s_step3 {lo hi b rb : Nat} {w : World} {q : Cfg} {A B : Int → List Int} (h : Duo lo hi w b rb q A B) {g : Nat} (hg : g < lo ∨ hi ≤ g) (i : Nat) (c : Int) (M : Mem w g 78 #[.int .i64 i, .int .i64 3, .int .i64 c]) : Calls Try.prog 42 #[.pointer (some ⟨g, 0, none⟩), .pointer (some ⟨rb, 0, none⟩)] w fun e w' => e = .returned (accV 0 0 0 0 0 false) ∧ Duo lo hi w' b rb q A B ∧ Mem w' g 78 #[.int .i64 i, .int .i64 3, .int .i64 c] ∧ Fr (PG lo hi g) w w' := by
  have htop := h.top
  have R0 := Lib.hid (Mem.new w 57 #[.int .i64 0, .int .i64 0, .int .i64 0, .int .u64 0, .int .u64 0, .bool false])
  have G0 := Lib.hid (M.alloc (.cells #[.int .i64 0, .int .i64 0, .int .i64 0, .int .u64 0, .int .u64 0, .bool false] 57))
  have D0 := Lib.hid (h.alloc (.cells #[.int .i64 0, .int .i64 0, .int .i64 0, .int .u64 0, .int .u64 0, .bool false] 57))
  have F0 := Lib.hid ((Fr.refl (PG lo hi g) w).alloc (.cells #[.int .i64 0, .int .i64 0, .int .i64 0, .int .u64 0, .int .u64 0, .bool false] 57))
  have hgw := M.lt
  have hrw := R0.out.lt
  clear h M
  go_enter Try.func42, Try.ntmps42
  go_upto_region 1 with (fail)
  obtain ⟨W0, hW⟩ : ∃ W', w.alloc (.cells #[.int .i64 0, .int .i64 0, .int .i64 0, .int .u64 0, .int .u64 0, .bool false] 57) = W' := ⟨_, rfl⟩
  rw [hW] at R0 G0 D0 F0
  first | rw [hW] | skip
  clear hW
  have g0_0 := Mem.cell G0.out 0
  have g0_1 := Mem.cell G0.out 1
  have g0_2 := Mem.cell G0.out 2
  have g0_z := G0.out.frozen
  simp at g0_0 g0_1 g0_2
  go_upto_region 2 with (fail)
  have G1 : Hid (Mem (W0.setCell ⟨g, 1, none⟩ (.int .i64 4)) g 78 #[.int .i64 i, .int .i64 4, .int .i64 c]) := Lib.hid (by have := G0.out.set_ 1 (.int .i64 4); simpa using this)
  have R1 := Lib.hid (R0.out.far (a := ⟨g, 1, none⟩) (by show w.heap.size ≠ g; omega) (.int .i64 4))
  have D1 := Lib.hid (D0.out.set_ ⟨g, 1, none⟩ hg (.int .i64 4))
  have F1 := Lib.hid (F0.out.set_ ⟨g, 1, none⟩ (.inl (.inr rfl)) (.int .i64 4))
  obtain ⟨W1, hW⟩ : ∃ W', W0.setCell ⟨g, 1, none⟩ (.int .i64 4) = W' := ⟨_, rfl⟩
  rw [hW] at R1 G1 D1 F1
  first | rw [hW] | skip
  clear hW
  clear g0_0 g0_1 g0_2 g0_z R0 G0 D0 F0
  have g1_0 := Mem.cell G1.out 0
  have g1_1 := Mem.cell G1.out 1
  have g1_2 := Mem.cell G1.out 2
  have g1_z := G1.out.frozen
  simp at g1_0 g1_1 g1_2
  go_upto_region 13 with (fail)
  have G2 : Hid (Mem (W1.setCell ⟨g, 1, none⟩ (.int .i64 3)) g 78 #[.int .i64 i, .int .i64 3, .int .i64 c]) := Lib.hid (by have := G1.out.set_ 1 (.int .i64 3); simpa using this)
  have R2 := Lib.hid (R1.out.far (a := ⟨g, 1, none⟩) (by show w.heap.size ≠ g; omega) (.int .i64 3))
  have D2 := Lib.hid (D1.out.set_ ⟨g, 1, none⟩ hg (.int .i64 3))
  have F2 := Lib.hid (F1.out.set_ ⟨g, 1, none⟩ (.inl (.inr rfl)) (.int .i64 3))
  obtain ⟨W2, hW⟩ : ∃ W', W1.setCell ⟨g, 1, none⟩ (.int .i64 3) = W' := ⟨_, rfl⟩
  rw [hW] at R2 G2 D2 F2
  first | rw [hW] | skip
  clear hW
  clear g1_0 g1_1 g1_2 g1_z R1 G1 D1 F1
  have g2_0 := Mem.cell G2.out 0
  have g2_1 := Mem.cell G2.out 1
  have g2_2 := Mem.cell G2.out 2
  have g2_z := G2.out.frozen
  simp at g2_0 g2_1 g2_2
  have r0_0 := Mem.cell R2.out 0
  have r0_1 := Mem.cell R2.out 1
  have r0_2 := Mem.cell R2.out 2
  have r0_3 := Mem.cell R2.out 3
  have r0_4 := Mem.cell R2.out 4
  have r0_5 := Mem.cell R2.out 5
  have r0_z := R2.out.frozen
  go_wp2
  obtain ⟨M5, S5⟩ := store6 R2.out (.int .i64 0) (.int .i64 0) (.int .i64 0) (.int .u64 0) (.int .u64 0) (.bool false)
  have D5 := D2.out.fr (P := fun x => x = w.heap.size) (Fr.of_stay S5 fun x a c => by omega) fun x a c => by omega
  have G5 := mem_fr (P := fun x => x = w.heap.size) G2.out (Fr.of_stay S5 fun x a c => by omega) (by omega)
  have F5 := Fr.then (Q := fun x => x = w.heap.size) F2.out (Fr.of_stay S5 fun x a c => by omega) fun x a c => by omega
  obtain ⟨V, hV⟩ : ∃ V, ((((((W2.setCell ⟨w.heap.size, 0, none⟩ (.int .i64 0)).setCell ⟨w.heap.size, 1, none⟩ (.int .i64 0)).setCell ⟨w.heap.size, 2, none⟩ (.int .i64 0)).setCell ⟨w.heap.size, 3, none⟩ (.int .u64 0)).setCell ⟨w.heap.size, 4, none⟩ (.int .u64 0)).setCell ⟨w.heap.size, 5, none⟩ (.bool false)) = V := ⟨_, rfl⟩
  rw [hV] at M5 D5 F5 G5 ⊢
  refine bodyPost_ret (v := .agg #[.int .i64 0, .int .i64 0, .int .i64 0, .int .u64 0, .int .u64 0, .bool false]) (results_cell_row rfl _ _ w.heap.size 57 #[.int .i64 0, .int .i64 0, .int .i64 0, .int .u64 0, .int .u64 0, .bool false] (0, 0) _ (by simp) M5 Try.underlying57 rfl (by kernel_rfl)) rfl ⟨rfl, D5, G5, F5⟩

theorem s_done (g : Nat) (t at_ s : Int) (w : World) (M : Mem w g 78 #[.int .i64 t, .int .i64 at_, .int .i64 s]) : Calls Try.prog 39 #[.pointer (some ⟨g, 0, none⟩)] w fun e w' => e = .returned (.bool (at_ == 3)) ∧ w = w' := by
  have c1 := M.cell 1
  simp at c1
  clear M
  go_enter Try.func39, Try.ntmps39
  go_wp2
  go_ret
  exact ⟨rfl, rfl⟩
theorem s_new (t : Int) (w : World) : Calls Try.prog 37 #[.int .i64 t] w fun e w' => e = .returned (.pointer (some ⟨w.heap.size, 0, none⟩)) ∧ w' = w.alloc (.cells #[.int .i64 t, .int .i64 0, .int .i64 (-1)] 78) := by
  go_enter Try.func37, Try.ntmps37
  go_wp2
  go_ret
  exact ⟨rfl, rfl⟩

end Go.Proofs.Ythgbfghhiadjpaa.EpoB
