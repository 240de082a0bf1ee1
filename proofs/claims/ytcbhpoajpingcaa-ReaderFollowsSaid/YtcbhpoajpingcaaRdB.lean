/-
  Contracts of the reference of package reader, over the cells of both machines.
-/
import Derived.Test.YtcbhpoajpingcaaRdA
namespace Go.Proofs.Ytcbhpoajpingcaa.RdB
open Go.ChangeShapes Go.WideShapes Go.ChangeAt Go.RowKit
open PlainT BlkW LayS LayA CelS CelM CelP CelV CelN CelO CelF LabD LabR LabP LabS CelLo WordC RdA
set_option linter.unusedVariables false
set_option maxHeartbeats 1000000
set_option maxRecDepth 100000

theorem rr_s0_held {lo hi b rb : Nat} {w : World} {q : Cfg} {A B : Int → List Int} (h : Duo lo hi w b rb q A B) {g : Nat} (hg : g < lo ∨ hi ≤ g) (a r sn vl : Int) (o : Nat) (hl : o < (B 2).length) (x : Int) (hx : (B 2).getD o 0 = x) (x0 : 0 ≤ x) (x1 : x ≤ 18446744073709551615) (t : Int) (ht : x % 64 - 1 = t) (hh : 0 ≤ t) (M : Mem w g 94 #[.int .i64 a, .int .i64 o, .int .i64 r, .int .i64 0, .int .u64 sn, .int .u64 vl]) : Calls Try.prog 54 #[.pointer (some ⟨g, 0, none⟩), .pointer (some ⟨rb, 0, none⟩)] w fun e w' => e = .returned (accV 1 2 o x x true) ∧ Duo lo hi w' b rb q A B ∧ Mem w' g 94 #[.int .i64 a, .int .i64 o, .int .i64 r, .int .i64 4, .int .u64 x, .int .u64 vl] ∧ Fr (PG lo hi g) w w' := by
  have htop := h.top
  have R0 := Lib.hid (Mem.new w 60 #[.int .i64 0, .int .i64 0, .int .i64 0, .int .u64 0, .int .u64 0, .bool false])
  have G0 := Lib.hid (M.alloc (.cells #[.int .i64 0, .int .i64 0, .int .i64 0, .int .u64 0, .int .u64 0, .bool false] 60))
  have D0 := Lib.hid (h.alloc (.cells #[.int .i64 0, .int .i64 0, .int .i64 0, .int .u64 0, .int .u64 0, .bool false] 60))
  have F0 := Lib.hid ((Fr.refl (PG lo hi g) w).alloc (.cells #[.int .i64 0, .int .i64 0, .int .i64 0, .int .u64 0, .int .u64 0, .bool false] 60))
  have hgw := M.lt
  have hrw := R0.out.lt
  clear h M
  go_enter Try.func54, Try.ntmps54
  go_upto_region 1 with (fail)
  obtain ⟨W0, hW⟩ : ∃ W', w.alloc (.cells #[.int .i64 0, .int .i64 0, .int .i64 0, .int .u64 0, .int .u64 0, .bool false] 60) = W' := ⟨_, rfl⟩
  rw [hW] at R0 G0 D0 F0
  first | rw [hW] | skip
  clear hW
  have g0_0 := Mem.cell G0.out 0
  have g0_1 := Mem.cell G0.out 1
  have g0_2 := Mem.cell G0.out 2
  have g0_3 := Mem.cell G0.out 3
  have g0_4 := Mem.cell G0.out 4
  have g0_5 := Mem.cell G0.out 5
  have g0_z := G0.out.frozen
  simp at g0_0 g0_1 g0_2 g0_3 g0_4 g0_5
  have hho := same_of (r_holder x x0 x1)
  have hve := same_of (r_version x x0 x1)
  simp only [ht] at hho
  clear ht
  have hc := s_load D0.out 2 (by decide) o hl x hx
  go_upto_region 4 with ((go_at_call 69; refine hc.mono ?_; rintro e w0' ⟨rfl, hD, hS⟩))
  have R1 := Lib.hid ((Mem.of_eq R0.out (hS.block w.heap.size R0.out.lt (.inr htop))).alloc (.cells #[.int .i64 1, .int .i64 2, .int .i64 o, .int .u64 x, .int .u64 x, .bool true] 60))
  have G1 := Lib.hid ((Mem.of_eq G0.out (hS.block g G0.out.lt hg)).alloc (.cells #[.int .i64 1, .int .i64 2, .int .i64 o, .int .u64 x, .int .u64 x, .bool true] 60))
  have D1 := Lib.hid ((hD).alloc (.cells #[.int .i64 1, .int .i64 2, .int .i64 o, .int .u64 x, .int .u64 x, .bool true] 60))
  have F1 := Lib.hid ((F0.out.trans (Fr.of_stay hS fun x a c => .inl ⟨a, c⟩)).alloc (.cells #[.int .i64 1, .int .i64 2, .int .i64 o, .int .u64 x, .int .u64 x, .bool true] 60))
  have HA1 := Lib.hid (Mem.new w0' 60 #[.int .i64 1, .int .i64 2, .int .i64 o, .int .u64 x, .int .u64 x, .bool true])
  have hgat : hi ≤ w0'.heap.size := hD.top
  have hgag : g < w0'.heap.size := Nat.lt_of_lt_of_le G0.out.lt hS.size
  have hgaw : w.heap.size < w0'.heap.size := Nat.lt_of_lt_of_le R0.out.lt hS.size
  obtain ⟨ga, hga⟩ : ∃ ga, w0'.heap.size = ga := ⟨_, rfl⟩
  rw [hga] at HA1 hgat hgaw hgag
  first | rw [hga] | skip
  clear hc hD hS hga
  obtain ⟨W1, hW⟩ : ∃ W', w0'.alloc (.cells #[.int .i64 1, .int .i64 2, .int .i64 o, .int .u64 x, .int .u64 x, .bool true] 60) = W' := ⟨_, rfl⟩
  rw [hW] at R1 G1 D1 F1 HA1
  first | rw [hW] | skip
  clear hW
  clear g0_0 g0_1 g0_2 g0_3 g0_4 g0_5 g0_z R0 G0 D0 F0
  have g1_0 := Mem.cell G1.out 0
  have g1_1 := Mem.cell G1.out 1
  have g1_2 := Mem.cell G1.out 2
  have g1_3 := Mem.cell G1.out 3
  have g1_4 := Mem.cell G1.out 4
  have g1_5 := Mem.cell G1.out 5
  have g1_z := G1.out.frozen
  have a1_0 := Mem.cell HA1.out 0
  have a1_1 := Mem.cell HA1.out 1
  have a1_2 := Mem.cell HA1.out 2
  have a1_3 := Mem.cell HA1.out 3
  have a1_4 := Mem.cell HA1.out 4
  have a1_5 := Mem.cell HA1.out 5
  simp at g1_0 g1_1 g1_2 g1_3 g1_4 g1_5 a1_0 a1_1 a1_2 a1_3 a1_4 a1_5
  go_upto_region 5 with (fail)
  have G2 : Hid (Mem (W1.setCell ⟨g, 4, none⟩ (.int .u64 x)) g 94 #[.int .i64 a, .int .i64 o, .int .i64 r, .int .i64 0, .int .u64 x, .int .u64 vl]) := Lib.hid (by have := G1.out.set_ 4 (.int .u64 x); simpa using this)
  have R2 := Lib.hid (R1.out.far (a := ⟨g, 4, none⟩) (by show w.heap.size ≠ g; omega) (.int .u64 x))
  have D2 := Lib.hid (D1.out.set_ ⟨g, 4, none⟩ hg (.int .u64 x))
  have F2 := Lib.hid (F1.out.set_ ⟨g, 4, none⟩ (.inl (.inr rfl)) (.int .u64 x))
  have HA2 := Lib.hid (HA1.out.far (a := ⟨g, 4, none⟩) (by show ga ≠ g; omega) (.int .u64 x))
  obtain ⟨W2, hW⟩ : ∃ W', W1.setCell ⟨g, 4, none⟩ (.int .u64 x) = W' := ⟨_, rfl⟩
  rw [hW] at R2 G2 D2 F2 HA2
  first | rw [hW] | skip
  clear hW
  clear g1_0 g1_1 g1_2 g1_3 g1_4 g1_5 a1_0 a1_1 a1_2 a1_3 a1_4 a1_5 g1_z R1 G1 D1 F1 HA1
  have g2_0 := Mem.cell G2.out 0
  have g2_1 := Mem.cell G2.out 1
  have g2_2 := Mem.cell G2.out 2
  have g2_3 := Mem.cell G2.out 3
  have g2_4 := Mem.cell G2.out 4
  have g2_5 := Mem.cell G2.out 5
  have g2_z := G2.out.frozen
  have a2_0 := Mem.cell HA2.out 0
  have a2_1 := Mem.cell HA2.out 1
  have a2_2 := Mem.cell HA2.out 2
  have a2_3 := Mem.cell HA2.out 3
  have a2_4 := Mem.cell HA2.out 4
  have a2_5 := Mem.cell HA2.out 5
  simp at g2_0 g2_1 g2_2 g2_3 g2_4 g2_5 a2_0 a2_1 a2_2 a2_3 a2_4 a2_5
  go_upto_region 6 with (fail)
  have G3 : Hid (Mem (W2.setCell ⟨g, 3, none⟩ (.int .i64 1)) g 94 #[.int .i64 a, .int .i64 o, .int .i64 r, .int .i64 1, .int .u64 x, .int .u64 vl]) := Lib.hid (by have := G2.out.set_ 3 (.int .i64 1); simpa using this)
  have R3 := Lib.hid (R2.out.far (a := ⟨g, 3, none⟩) (by show w.heap.size ≠ g; omega) (.int .i64 1))
  have D3 := Lib.hid (D2.out.set_ ⟨g, 3, none⟩ hg (.int .i64 1))
  have F3 := Lib.hid (F2.out.set_ ⟨g, 3, none⟩ (.inl (.inr rfl)) (.int .i64 1))
  have HA3 := Lib.hid (HA2.out.far (a := ⟨g, 3, none⟩) (by show ga ≠ g; omega) (.int .i64 1))
  obtain ⟨W3, hW⟩ : ∃ W', W2.setCell ⟨g, 3, none⟩ (.int .i64 1) = W' := ⟨_, rfl⟩
  rw [hW] at R3 G3 D3 F3 HA3
  first | rw [hW] | skip
  clear hW
  clear g2_0 g2_1 g2_2 g2_3 g2_4 g2_5 a2_0 a2_1 a2_2 a2_3 a2_4 a2_5 g2_z R2 G2 D2 F2 HA2
  have g3_0 := Mem.cell G3.out 0
  have g3_1 := Mem.cell G3.out 1
  have g3_2 := Mem.cell G3.out 2
  have g3_3 := Mem.cell G3.out 3
  have g3_4 := Mem.cell G3.out 4
  have g3_5 := Mem.cell G3.out 5
  have g3_z := G3.out.frozen
  have a3_0 := Mem.cell HA3.out 0
  have a3_1 := Mem.cell HA3.out 1
  have a3_2 := Mem.cell HA3.out 2
  have a3_3 := Mem.cell HA3.out 3
  have a3_4 := Mem.cell HA3.out 4
  have a3_5 := Mem.cell HA3.out 5
  simp at g3_0 g3_1 g3_2 g3_3 g3_4 g3_5 a3_0 a3_1 a3_2 a3_3 a3_4 a3_5
  go_quiet ((go_at_call 91; exact Calls.quiet_of_same (hho _)))
  have R4 := Lib.hid (R3.out.drewN nq)
  have G4 := Lib.hid (G3.out.drewN nq)
  have D4 := Lib.hid (D3.out.drewN nq)
  have F4 := Lib.hid (F3.out.drewN nq)
  have HA4 := Lib.hid (HA3.out.drewN nq)
  obtain ⟨W4, hW⟩ : ∃ W', W3.drewN nq = W' := ⟨_, rfl⟩
  rw [hW] at R4 G4 D4 F4 HA4
  first | rw [hW] | skip
  clear hW
  clear nq
  clear g3_0 g3_1 g3_2 g3_3 g3_4 g3_5 a3_0 a3_1 a3_2 a3_3 a3_4 a3_5 g3_z R3 G3 D3 F3 HA3
  have g4_0 := Mem.cell G4.out 0
  have g4_1 := Mem.cell G4.out 1
  have g4_2 := Mem.cell G4.out 2
  have g4_3 := Mem.cell G4.out 3
  have g4_4 := Mem.cell G4.out 4
  have g4_5 := Mem.cell G4.out 5
  have g4_z := G4.out.frozen
  have a4_0 := Mem.cell HA4.out 0
  have a4_1 := Mem.cell HA4.out 1
  have a4_2 := Mem.cell HA4.out 2
  have a4_3 := Mem.cell HA4.out 3
  have a4_4 := Mem.cell HA4.out 4
  have a4_5 := Mem.cell HA4.out 5
  simp at g4_0 g4_1 g4_2 g4_3 g4_4 g4_5 a4_0 a4_1 a4_2 a4_3 a4_4 a4_5
  go_upto_region 7 with (fail)
  go_upto_region 8 with (fail)
  have G5 : Hid (Mem (W4.setCell ⟨g, 3, none⟩ (.int .i64 4)) g 94 #[.int .i64 a, .int .i64 o, .int .i64 r, .int .i64 4, .int .u64 x, .int .u64 vl]) := Lib.hid (by have := G4.out.set_ 3 (.int .i64 4); simpa using this)
  have R5 := Lib.hid (R4.out.far (a := ⟨g, 3, none⟩) (by show w.heap.size ≠ g; omega) (.int .i64 4))
  have D5 := Lib.hid (D4.out.set_ ⟨g, 3, none⟩ hg (.int .i64 4))
  have F5 := Lib.hid (F4.out.set_ ⟨g, 3, none⟩ (.inl (.inr rfl)) (.int .i64 4))
  have HA5 := Lib.hid (HA4.out.far (a := ⟨g, 3, none⟩) (by show ga ≠ g; omega) (.int .i64 4))
  obtain ⟨W5, hW⟩ : ∃ W', W4.setCell ⟨g, 3, none⟩ (.int .i64 4) = W' := ⟨_, rfl⟩
  rw [hW] at R5 G5 D5 F5 HA5
  first | rw [hW] | skip
  clear hW
  clear g4_0 g4_1 g4_2 g4_3 g4_4 g4_5 a4_0 a4_1 a4_2 a4_3 a4_4 a4_5 g4_z R4 G4 D4 F4 HA4
  have g5_0 := Mem.cell G5.out 0
  have g5_1 := Mem.cell G5.out 1
  have g5_2 := Mem.cell G5.out 2
  have g5_3 := Mem.cell G5.out 3
  have g5_4 := Mem.cell G5.out 4
  have g5_5 := Mem.cell G5.out 5
  have g5_z := G5.out.frozen
  have a5_0 := Mem.cell HA5.out 0
  have a5_1 := Mem.cell HA5.out 1
  have a5_2 := Mem.cell HA5.out 2
  have a5_3 := Mem.cell HA5.out 3
  have a5_4 := Mem.cell HA5.out 4
  have a5_5 := Mem.cell HA5.out 5
  simp at g5_0 g5_1 g5_2 g5_3 g5_4 g5_5 a5_0 a5_1 a5_2 a5_3 a5_4 a5_5
  have r0_0 := Mem.cell R5.out 0
  have r0_1 := Mem.cell R5.out 1
  have r0_2 := Mem.cell R5.out 2
  have r0_3 := Mem.cell R5.out 3
  have r0_4 := Mem.cell R5.out 4
  have r0_5 := Mem.cell R5.out 5
  have r0_z := R5.out.frozen
  go_wp2
  obtain ⟨M5, S5⟩ := store6 R5.out (.int .i64 1) (.int .i64 2) (.int .i64 o) (.int .u64 x) (.int .u64 x) (.bool true)
  have D5 := D5.out.fr (P := fun x => x = w.heap.size) (Fr.of_stay S5 fun x a c => by omega) fun x a c => by omega
  have G5 := mem_fr (P := fun x => x = w.heap.size) G5.out (Fr.of_stay S5 fun x a c => by omega) (by omega)
  have F5 := Fr.then (Q := fun x => x = w.heap.size) F5.out (Fr.of_stay S5 fun x a c => by omega) fun x a c => by omega
  obtain ⟨V, hV⟩ : ∃ V, ((((((W5.setCell ⟨w.heap.size, 0, none⟩ (.int .i64 1)).setCell ⟨w.heap.size, 1, none⟩ (.int .i64 2)).setCell ⟨w.heap.size, 2, none⟩ (.int .i64 o)).setCell ⟨w.heap.size, 3, none⟩ (.int .u64 x)).setCell ⟨w.heap.size, 4, none⟩ (.int .u64 x)).setCell ⟨w.heap.size, 5, none⟩ (.bool true)) = V := ⟨_, rfl⟩
  rw [hV] at M5 D5 F5 G5 ⊢
  refine bodyPost_ret (v := .agg #[.int .i64 1, .int .i64 2, .int .i64 o, .int .u64 x, .int .u64 x, .bool true]) (results_cell_row rfl _ _ w.heap.size 60 #[.int .i64 1, .int .i64 2, .int .i64 o, .int .u64 x, .int .u64 x, .bool true] (0, 0) _ (by simp) M5 Try.underlying60 rfl (by kernel_rfl)) rfl ⟨rfl, D5, G5, F5⟩

theorem rr_s0_new {lo hi b rb : Nat} {w : World} {q : Cfg} {A B : Int → List Int} (h : Duo lo hi w b rb q A B) {g : Nat} (hg : g < lo ∨ hi ≤ g) (a r sn vl : Int) (o : Nat) (hl : o < (B 2).length) (x : Int) (hx : (B 2).getD o 0 = x) (x0 : 0 ≤ x) (x1 : x ≤ 18446744073709551615) (t : Int) (ht : x % 64 - 1 = t) (hh : decide (0 ≤ t) = false) (hv : r < x / 64) (M : Mem w g 94 #[.int .i64 a, .int .i64 o, .int .i64 r, .int .i64 0, .int .u64 sn, .int .u64 vl]) : Calls Try.prog 54 #[.pointer (some ⟨g, 0, none⟩), .pointer (some ⟨rb, 0, none⟩)] w fun e w' => e = .returned (accV 1 2 o x x true) ∧ Duo lo hi w' b rb q A B ∧ Mem w' g 94 #[.int .i64 a, .int .i64 o, .int .i64 r, .int .i64 4, .int .u64 x, .int .u64 vl] ∧ Fr (PG lo hi g) w w' := by
  have htop := h.top
  have R0 := Lib.hid (Mem.new w 60 #[.int .i64 0, .int .i64 0, .int .i64 0, .int .u64 0, .int .u64 0, .bool false])
  have G0 := Lib.hid (M.alloc (.cells #[.int .i64 0, .int .i64 0, .int .i64 0, .int .u64 0, .int .u64 0, .bool false] 60))
  have D0 := Lib.hid (h.alloc (.cells #[.int .i64 0, .int .i64 0, .int .i64 0, .int .u64 0, .int .u64 0, .bool false] 60))
  have F0 := Lib.hid ((Fr.refl (PG lo hi g) w).alloc (.cells #[.int .i64 0, .int .i64 0, .int .i64 0, .int .u64 0, .int .u64 0, .bool false] 60))
  have hgw := M.lt
  have hrw := R0.out.lt
  clear h M
  go_enter Try.func54, Try.ntmps54
  go_upto_region 1 with (fail)
  obtain ⟨W0, hW⟩ : ∃ W', w.alloc (.cells #[.int .i64 0, .int .i64 0, .int .i64 0, .int .u64 0, .int .u64 0, .bool false] 60) = W' := ⟨_, rfl⟩
  rw [hW] at R0 G0 D0 F0
  first | rw [hW] | skip
  clear hW
  have g0_0 := Mem.cell G0.out 0
  have g0_1 := Mem.cell G0.out 1
  have g0_2 := Mem.cell G0.out 2
  have g0_3 := Mem.cell G0.out 3
  have g0_4 := Mem.cell G0.out 4
  have g0_5 := Mem.cell G0.out 5
  have g0_z := G0.out.frozen
  simp at g0_0 g0_1 g0_2 g0_3 g0_4 g0_5
  have hho := same_of (r_holder x x0 x1)
  have hve := same_of (r_version x x0 x1)
  simp only [ht] at hho
  clear ht
  have hc := s_load D0.out 2 (by decide) o hl x hx
  go_upto_region 4 with ((go_at_call 69; refine hc.mono ?_; rintro e w0' ⟨rfl, hD, hS⟩))
  have R1 := Lib.hid ((Mem.of_eq R0.out (hS.block w.heap.size R0.out.lt (.inr htop))).alloc (.cells #[.int .i64 1, .int .i64 2, .int .i64 o, .int .u64 x, .int .u64 x, .bool true] 60))
  have G1 := Lib.hid ((Mem.of_eq G0.out (hS.block g G0.out.lt hg)).alloc (.cells #[.int .i64 1, .int .i64 2, .int .i64 o, .int .u64 x, .int .u64 x, .bool true] 60))
  have D1 := Lib.hid ((hD).alloc (.cells #[.int .i64 1, .int .i64 2, .int .i64 o, .int .u64 x, .int .u64 x, .bool true] 60))
  have F1 := Lib.hid ((F0.out.trans (Fr.of_stay hS fun x a c => .inl ⟨a, c⟩)).alloc (.cells #[.int .i64 1, .int .i64 2, .int .i64 o, .int .u64 x, .int .u64 x, .bool true] 60))
  have HA1 := Lib.hid (Mem.new w0' 60 #[.int .i64 1, .int .i64 2, .int .i64 o, .int .u64 x, .int .u64 x, .bool true])
  have hgat : hi ≤ w0'.heap.size := hD.top
  have hgag : g < w0'.heap.size := Nat.lt_of_lt_of_le G0.out.lt hS.size
  have hgaw : w.heap.size < w0'.heap.size := Nat.lt_of_lt_of_le R0.out.lt hS.size
  obtain ⟨ga, hga⟩ : ∃ ga, w0'.heap.size = ga := ⟨_, rfl⟩
  rw [hga] at HA1 hgat hgaw hgag
  first | rw [hga] | skip
  clear hc hD hS hga
  obtain ⟨W1, hW⟩ : ∃ W', w0'.alloc (.cells #[.int .i64 1, .int .i64 2, .int .i64 o, .int .u64 x, .int .u64 x, .bool true] 60) = W' := ⟨_, rfl⟩
  rw [hW] at R1 G1 D1 F1 HA1
  first | rw [hW] | skip
  clear hW
  clear g0_0 g0_1 g0_2 g0_3 g0_4 g0_5 g0_z R0 G0 D0 F0
  have g1_0 := Mem.cell G1.out 0
  have g1_1 := Mem.cell G1.out 1
  have g1_2 := Mem.cell G1.out 2
  have g1_3 := Mem.cell G1.out 3
  have g1_4 := Mem.cell G1.out 4
  have g1_5 := Mem.cell G1.out 5
  have g1_z := G1.out.frozen
  have a1_0 := Mem.cell HA1.out 0
  have a1_1 := Mem.cell HA1.out 1
  have a1_2 := Mem.cell HA1.out 2
  have a1_3 := Mem.cell HA1.out 3
  have a1_4 := Mem.cell HA1.out 4
  have a1_5 := Mem.cell HA1.out 5
  simp at g1_0 g1_1 g1_2 g1_3 g1_4 g1_5 a1_0 a1_1 a1_2 a1_3 a1_4 a1_5
  go_upto_region 5 with (fail)
  have G2 : Hid (Mem (W1.setCell ⟨g, 4, none⟩ (.int .u64 x)) g 94 #[.int .i64 a, .int .i64 o, .int .i64 r, .int .i64 0, .int .u64 x, .int .u64 vl]) := Lib.hid (by have := G1.out.set_ 4 (.int .u64 x); simpa using this)
  have R2 := Lib.hid (R1.out.far (a := ⟨g, 4, none⟩) (by show w.heap.size ≠ g; omega) (.int .u64 x))
  have D2 := Lib.hid (D1.out.set_ ⟨g, 4, none⟩ hg (.int .u64 x))
  have F2 := Lib.hid (F1.out.set_ ⟨g, 4, none⟩ (.inl (.inr rfl)) (.int .u64 x))
  have HA2 := Lib.hid (HA1.out.far (a := ⟨g, 4, none⟩) (by show ga ≠ g; omega) (.int .u64 x))
  obtain ⟨W2, hW⟩ : ∃ W', W1.setCell ⟨g, 4, none⟩ (.int .u64 x) = W' := ⟨_, rfl⟩
  rw [hW] at R2 G2 D2 F2 HA2
  first | rw [hW] | skip
  clear hW
  clear g1_0 g1_1 g1_2 g1_3 g1_4 g1_5 a1_0 a1_1 a1_2 a1_3 a1_4 a1_5 g1_z R1 G1 D1 F1 HA1
  have g2_0 := Mem.cell G2.out 0
  have g2_1 := Mem.cell G2.out 1
  have g2_2 := Mem.cell G2.out 2
  have g2_3 := Mem.cell G2.out 3
  have g2_4 := Mem.cell G2.out 4
  have g2_5 := Mem.cell G2.out 5
  have g2_z := G2.out.frozen
  have a2_0 := Mem.cell HA2.out 0
  have a2_1 := Mem.cell HA2.out 1
  have a2_2 := Mem.cell HA2.out 2
  have a2_3 := Mem.cell HA2.out 3
  have a2_4 := Mem.cell HA2.out 4
  have a2_5 := Mem.cell HA2.out 5
  simp at g2_0 g2_1 g2_2 g2_3 g2_4 g2_5 a2_0 a2_1 a2_2 a2_3 a2_4 a2_5
  go_upto_region 6 with (fail)
  have G3 : Hid (Mem (W2.setCell ⟨g, 3, none⟩ (.int .i64 1)) g 94 #[.int .i64 a, .int .i64 o, .int .i64 r, .int .i64 1, .int .u64 x, .int .u64 vl]) := Lib.hid (by have := G2.out.set_ 3 (.int .i64 1); simpa using this)
  have R3 := Lib.hid (R2.out.far (a := ⟨g, 3, none⟩) (by show w.heap.size ≠ g; omega) (.int .i64 1))
  have D3 := Lib.hid (D2.out.set_ ⟨g, 3, none⟩ hg (.int .i64 1))
  have F3 := Lib.hid (F2.out.set_ ⟨g, 3, none⟩ (.inl (.inr rfl)) (.int .i64 1))
  have HA3 := Lib.hid (HA2.out.far (a := ⟨g, 3, none⟩) (by show ga ≠ g; omega) (.int .i64 1))
  obtain ⟨W3, hW⟩ : ∃ W', W2.setCell ⟨g, 3, none⟩ (.int .i64 1) = W' := ⟨_, rfl⟩
  rw [hW] at R3 G3 D3 F3 HA3
  first | rw [hW] | skip
  clear hW
  clear g2_0 g2_1 g2_2 g2_3 g2_4 g2_5 a2_0 a2_1 a2_2 a2_3 a2_4 a2_5 g2_z R2 G2 D2 F2 HA2
  have g3_0 := Mem.cell G3.out 0
  have g3_1 := Mem.cell G3.out 1
  have g3_2 := Mem.cell G3.out 2
  have g3_3 := Mem.cell G3.out 3
  have g3_4 := Mem.cell G3.out 4
  have g3_5 := Mem.cell G3.out 5
  have g3_z := G3.out.frozen
  have a3_0 := Mem.cell HA3.out 0
  have a3_1 := Mem.cell HA3.out 1
  have a3_2 := Mem.cell HA3.out 2
  have a3_3 := Mem.cell HA3.out 3
  have a3_4 := Mem.cell HA3.out 4
  have a3_5 := Mem.cell HA3.out 5
  simp at g3_0 g3_1 g3_2 g3_3 g3_4 g3_5 a3_0 a3_1 a3_2 a3_3 a3_4 a3_5
  go_quiet (first | (go_at_call 91; exact Calls.quiet_of_same (hho _)) | (go_at_call 92; exact Calls.quiet_of_same (hve _)))
  have R4 := Lib.hid (R3.out.drewN nq)
  have G4 := Lib.hid (G3.out.drewN nq)
  have D4 := Lib.hid (D3.out.drewN nq)
  have F4 := Lib.hid (F3.out.drewN nq)
  have HA4 := Lib.hid (HA3.out.drewN nq)
  obtain ⟨W4, hW⟩ : ∃ W', W3.drewN nq = W' := ⟨_, rfl⟩
  rw [hW] at R4 G4 D4 F4 HA4
  first | rw [hW] | skip
  clear hW
  clear nq
  clear g3_0 g3_1 g3_2 g3_3 g3_4 g3_5 a3_0 a3_1 a3_2 a3_3 a3_4 a3_5 g3_z R3 G3 D3 F3 HA3
  have g4_0 := Mem.cell G4.out 0
  have g4_1 := Mem.cell G4.out 1
  have g4_2 := Mem.cell G4.out 2
  have g4_3 := Mem.cell G4.out 3
  have g4_4 := Mem.cell G4.out 4
  have g4_5 := Mem.cell G4.out 5
  have g4_z := G4.out.frozen
  have a4_0 := Mem.cell HA4.out 0
  have a4_1 := Mem.cell HA4.out 1
  have a4_2 := Mem.cell HA4.out 2
  have a4_3 := Mem.cell HA4.out 3
  have a4_4 := Mem.cell HA4.out 4
  have a4_5 := Mem.cell HA4.out 5
  simp at g4_0 g4_1 g4_2 g4_3 g4_4 g4_5 a4_0 a4_1 a4_2 a4_3 a4_4 a4_5
  go_upto_region 7 with (fail)
  go_upto_region 8 with (fail)
  have G5 : Hid (Mem (W4.setCell ⟨g, 3, none⟩ (.int .i64 4)) g 94 #[.int .i64 a, .int .i64 o, .int .i64 r, .int .i64 4, .int .u64 x, .int .u64 vl]) := Lib.hid (by have := G4.out.set_ 3 (.int .i64 4); simpa using this)
  have R5 := Lib.hid (R4.out.far (a := ⟨g, 3, none⟩) (by show w.heap.size ≠ g; omega) (.int .i64 4))
  have D5 := Lib.hid (D4.out.set_ ⟨g, 3, none⟩ hg (.int .i64 4))
  have F5 := Lib.hid (F4.out.set_ ⟨g, 3, none⟩ (.inl (.inr rfl)) (.int .i64 4))
  have HA5 := Lib.hid (HA4.out.far (a := ⟨g, 3, none⟩) (by show ga ≠ g; omega) (.int .i64 4))
  obtain ⟨W5, hW⟩ : ∃ W', W4.setCell ⟨g, 3, none⟩ (.int .i64 4) = W' := ⟨_, rfl⟩
  rw [hW] at R5 G5 D5 F5 HA5
  first | rw [hW] | skip
  clear hW
  clear g4_0 g4_1 g4_2 g4_3 g4_4 g4_5 a4_0 a4_1 a4_2 a4_3 a4_4 a4_5 g4_z R4 G4 D4 F4 HA4
  have g5_0 := Mem.cell G5.out 0
  have g5_1 := Mem.cell G5.out 1
  have g5_2 := Mem.cell G5.out 2
  have g5_3 := Mem.cell G5.out 3
  have g5_4 := Mem.cell G5.out 4
  have g5_5 := Mem.cell G5.out 5
  have g5_z := G5.out.frozen
  have a5_0 := Mem.cell HA5.out 0
  have a5_1 := Mem.cell HA5.out 1
  have a5_2 := Mem.cell HA5.out 2
  have a5_3 := Mem.cell HA5.out 3
  have a5_4 := Mem.cell HA5.out 4
  have a5_5 := Mem.cell HA5.out 5
  simp at g5_0 g5_1 g5_2 g5_3 g5_4 g5_5 a5_0 a5_1 a5_2 a5_3 a5_4 a5_5
  have r0_0 := Mem.cell R5.out 0
  have r0_1 := Mem.cell R5.out 1
  have r0_2 := Mem.cell R5.out 2
  have r0_3 := Mem.cell R5.out 3
  have r0_4 := Mem.cell R5.out 4
  have r0_5 := Mem.cell R5.out 5
  have r0_z := R5.out.frozen
  go_wp2
  obtain ⟨M5, S5⟩ := store6 R5.out (.int .i64 1) (.int .i64 2) (.int .i64 o) (.int .u64 x) (.int .u64 x) (.bool true)
  have D5 := D5.out.fr (P := fun x => x = w.heap.size) (Fr.of_stay S5 fun x a c => by omega) fun x a c => by omega
  have G5 := mem_fr (P := fun x => x = w.heap.size) G5.out (Fr.of_stay S5 fun x a c => by omega) (by omega)
  have F5 := Fr.then (Q := fun x => x = w.heap.size) F5.out (Fr.of_stay S5 fun x a c => by omega) fun x a c => by omega
  obtain ⟨V, hV⟩ : ∃ V, ((((((W5.setCell ⟨w.heap.size, 0, none⟩ (.int .i64 1)).setCell ⟨w.heap.size, 1, none⟩ (.int .i64 2)).setCell ⟨w.heap.size, 2, none⟩ (.int .i64 o)).setCell ⟨w.heap.size, 3, none⟩ (.int .u64 x)).setCell ⟨w.heap.size, 4, none⟩ (.int .u64 x)).setCell ⟨w.heap.size, 5, none⟩ (.bool true)) = V := ⟨_, rfl⟩
  rw [hV] at M5 D5 F5 G5 ⊢
  refine bodyPost_ret (v := .agg #[.int .i64 1, .int .i64 2, .int .i64 o, .int .u64 x, .int .u64 x, .bool true]) (results_cell_row rfl _ _ w.heap.size 60 #[.int .i64 1, .int .i64 2, .int .i64 o, .int .u64 x, .int .u64 x, .bool true] (0, 0) _ (by simp) M5 Try.underlying60 rfl (by kernel_rfl)) rfl ⟨rfl, D5, G5, F5⟩

theorem rr_s0_go {lo hi b rb : Nat} {w : World} {q : Cfg} {A B : Int → List Int} (h : Duo lo hi w b rb q A B) {g : Nat} (hg : g < lo ∨ hi ≤ g) (a r sn vl : Int) (o : Nat) (hl : o < (B 2).length) (x : Int) (hx : (B 2).getD o 0 = x) (x0 : 0 ≤ x) (x1 : x ≤ 18446744073709551615) (t : Int) (ht : x % 64 - 1 = t) (hh : decide (0 ≤ t) = false) (hv : x / 64 ≤ r) (M : Mem w g 94 #[.int .i64 a, .int .i64 o, .int .i64 r, .int .i64 0, .int .u64 sn, .int .u64 vl]) : Calls Try.prog 54 #[.pointer (some ⟨g, 0, none⟩), .pointer (some ⟨rb, 0, none⟩)] w fun e w' => e = .returned (accV 1 2 o x x true) ∧ Duo lo hi w' b rb q A B ∧ Mem w' g 94 #[.int .i64 a, .int .i64 o, .int .i64 r, .int .i64 1, .int .u64 x, .int .u64 vl] ∧ Fr (PG lo hi g) w w' := by
  have htop := h.top
  have R0 := Lib.hid (Mem.new w 60 #[.int .i64 0, .int .i64 0, .int .i64 0, .int .u64 0, .int .u64 0, .bool false])
  have G0 := Lib.hid (M.alloc (.cells #[.int .i64 0, .int .i64 0, .int .i64 0, .int .u64 0, .int .u64 0, .bool false] 60))
  have D0 := Lib.hid (h.alloc (.cells #[.int .i64 0, .int .i64 0, .int .i64 0, .int .u64 0, .int .u64 0, .bool false] 60))
  have F0 := Lib.hid ((Fr.refl (PG lo hi g) w).alloc (.cells #[.int .i64 0, .int .i64 0, .int .i64 0, .int .u64 0, .int .u64 0, .bool false] 60))
  have hgw := M.lt
  have hrw := R0.out.lt
  clear h M
  go_enter Try.func54, Try.ntmps54
  go_upto_region 1 with (fail)
  obtain ⟨W0, hW⟩ : ∃ W', w.alloc (.cells #[.int .i64 0, .int .i64 0, .int .i64 0, .int .u64 0, .int .u64 0, .bool false] 60) = W' := ⟨_, rfl⟩
  rw [hW] at R0 G0 D0 F0
  first | rw [hW] | skip
  clear hW
  have g0_0 := Mem.cell G0.out 0
  have g0_1 := Mem.cell G0.out 1
  have g0_2 := Mem.cell G0.out 2
  have g0_3 := Mem.cell G0.out 3
  have g0_4 := Mem.cell G0.out 4
  have g0_5 := Mem.cell G0.out 5
  have g0_z := G0.out.frozen
  simp at g0_0 g0_1 g0_2 g0_3 g0_4 g0_5
  have hho := same_of (r_holder x x0 x1)
  have hve := same_of (r_version x x0 x1)
  simp only [ht] at hho
  clear ht
  have hc := s_load D0.out 2 (by decide) o hl x hx
  go_upto_region 4 with ((go_at_call 69; refine hc.mono ?_; rintro e w0' ⟨rfl, hD, hS⟩))
  have R1 := Lib.hid ((Mem.of_eq R0.out (hS.block w.heap.size R0.out.lt (.inr htop))).alloc (.cells #[.int .i64 1, .int .i64 2, .int .i64 o, .int .u64 x, .int .u64 x, .bool true] 60))
  have G1 := Lib.hid ((Mem.of_eq G0.out (hS.block g G0.out.lt hg)).alloc (.cells #[.int .i64 1, .int .i64 2, .int .i64 o, .int .u64 x, .int .u64 x, .bool true] 60))
  have D1 := Lib.hid ((hD).alloc (.cells #[.int .i64 1, .int .i64 2, .int .i64 o, .int .u64 x, .int .u64 x, .bool true] 60))
  have F1 := Lib.hid ((F0.out.trans (Fr.of_stay hS fun x a c => .inl ⟨a, c⟩)).alloc (.cells #[.int .i64 1, .int .i64 2, .int .i64 o, .int .u64 x, .int .u64 x, .bool true] 60))
  have HA1 := Lib.hid (Mem.new w0' 60 #[.int .i64 1, .int .i64 2, .int .i64 o, .int .u64 x, .int .u64 x, .bool true])
  have hgat : hi ≤ w0'.heap.size := hD.top
  have hgag : g < w0'.heap.size := Nat.lt_of_lt_of_le G0.out.lt hS.size
  have hgaw : w.heap.size < w0'.heap.size := Nat.lt_of_lt_of_le R0.out.lt hS.size
  obtain ⟨ga, hga⟩ : ∃ ga, w0'.heap.size = ga := ⟨_, rfl⟩
  rw [hga] at HA1 hgat hgaw hgag
  first | rw [hga] | skip
  clear hc hD hS hga
  obtain ⟨W1, hW⟩ : ∃ W', w0'.alloc (.cells #[.int .i64 1, .int .i64 2, .int .i64 o, .int .u64 x, .int .u64 x, .bool true] 60) = W' := ⟨_, rfl⟩
  rw [hW] at R1 G1 D1 F1 HA1
  first | rw [hW] | skip
  clear hW
  clear g0_0 g0_1 g0_2 g0_3 g0_4 g0_5 g0_z R0 G0 D0 F0
  have g1_0 := Mem.cell G1.out 0
  have g1_1 := Mem.cell G1.out 1
  have g1_2 := Mem.cell G1.out 2
  have g1_3 := Mem.cell G1.out 3
  have g1_4 := Mem.cell G1.out 4
  have g1_5 := Mem.cell G1.out 5
  have g1_z := G1.out.frozen
  have a1_0 := Mem.cell HA1.out 0
  have a1_1 := Mem.cell HA1.out 1
  have a1_2 := Mem.cell HA1.out 2
  have a1_3 := Mem.cell HA1.out 3
  have a1_4 := Mem.cell HA1.out 4
  have a1_5 := Mem.cell HA1.out 5
  simp at g1_0 g1_1 g1_2 g1_3 g1_4 g1_5 a1_0 a1_1 a1_2 a1_3 a1_4 a1_5
  go_upto_region 5 with (fail)
  have G2 : Hid (Mem (W1.setCell ⟨g, 4, none⟩ (.int .u64 x)) g 94 #[.int .i64 a, .int .i64 o, .int .i64 r, .int .i64 0, .int .u64 x, .int .u64 vl]) := Lib.hid (by have := G1.out.set_ 4 (.int .u64 x); simpa using this)
  have R2 := Lib.hid (R1.out.far (a := ⟨g, 4, none⟩) (by show w.heap.size ≠ g; omega) (.int .u64 x))
  have D2 := Lib.hid (D1.out.set_ ⟨g, 4, none⟩ hg (.int .u64 x))
  have F2 := Lib.hid (F1.out.set_ ⟨g, 4, none⟩ (.inl (.inr rfl)) (.int .u64 x))
  have HA2 := Lib.hid (HA1.out.far (a := ⟨g, 4, none⟩) (by show ga ≠ g; omega) (.int .u64 x))
  obtain ⟨W2, hW⟩ : ∃ W', W1.setCell ⟨g, 4, none⟩ (.int .u64 x) = W' := ⟨_, rfl⟩
  rw [hW] at R2 G2 D2 F2 HA2
  first | rw [hW] | skip
  clear hW
  clear g1_0 g1_1 g1_2 g1_3 g1_4 g1_5 a1_0 a1_1 a1_2 a1_3 a1_4 a1_5 g1_z R1 G1 D1 F1 HA1
  have g2_0 := Mem.cell G2.out 0
  have g2_1 := Mem.cell G2.out 1
  have g2_2 := Mem.cell G2.out 2
  have g2_3 := Mem.cell G2.out 3
  have g2_4 := Mem.cell G2.out 4
  have g2_5 := Mem.cell G2.out 5
  have g2_z := G2.out.frozen
  have a2_0 := Mem.cell HA2.out 0
  have a2_1 := Mem.cell HA2.out 1
  have a2_2 := Mem.cell HA2.out 2
  have a2_3 := Mem.cell HA2.out 3
  have a2_4 := Mem.cell HA2.out 4
  have a2_5 := Mem.cell HA2.out 5
  simp at g2_0 g2_1 g2_2 g2_3 g2_4 g2_5 a2_0 a2_1 a2_2 a2_3 a2_4 a2_5
  go_upto_region 6 with (fail)
  have G3 : Hid (Mem (W2.setCell ⟨g, 3, none⟩ (.int .i64 1)) g 94 #[.int .i64 a, .int .i64 o, .int .i64 r, .int .i64 1, .int .u64 x, .int .u64 vl]) := Lib.hid (by have := G2.out.set_ 3 (.int .i64 1); simpa using this)
  have R3 := Lib.hid (R2.out.far (a := ⟨g, 3, none⟩) (by show w.heap.size ≠ g; omega) (.int .i64 1))
  have D3 := Lib.hid (D2.out.set_ ⟨g, 3, none⟩ hg (.int .i64 1))
  have F3 := Lib.hid (F2.out.set_ ⟨g, 3, none⟩ (.inl (.inr rfl)) (.int .i64 1))
  have HA3 := Lib.hid (HA2.out.far (a := ⟨g, 3, none⟩) (by show ga ≠ g; omega) (.int .i64 1))
  obtain ⟨W3, hW⟩ : ∃ W', W2.setCell ⟨g, 3, none⟩ (.int .i64 1) = W' := ⟨_, rfl⟩
  rw [hW] at R3 G3 D3 F3 HA3
  first | rw [hW] | skip
  clear hW
  clear g2_0 g2_1 g2_2 g2_3 g2_4 g2_5 a2_0 a2_1 a2_2 a2_3 a2_4 a2_5 g2_z R2 G2 D2 F2 HA2
  have g3_0 := Mem.cell G3.out 0
  have g3_1 := Mem.cell G3.out 1
  have g3_2 := Mem.cell G3.out 2
  have g3_3 := Mem.cell G3.out 3
  have g3_4 := Mem.cell G3.out 4
  have g3_5 := Mem.cell G3.out 5
  have g3_z := G3.out.frozen
  have a3_0 := Mem.cell HA3.out 0
  have a3_1 := Mem.cell HA3.out 1
  have a3_2 := Mem.cell HA3.out 2
  have a3_3 := Mem.cell HA3.out 3
  have a3_4 := Mem.cell HA3.out 4
  have a3_5 := Mem.cell HA3.out 5
  simp at g3_0 g3_1 g3_2 g3_3 g3_4 g3_5 a3_0 a3_1 a3_2 a3_3 a3_4 a3_5
  go_quiet (first | (go_at_call 91; exact Calls.quiet_of_same (hho _)) | (go_at_call 92; exact Calls.quiet_of_same (hve _)))
  have R4 := Lib.hid (R3.out.drewN nq)
  have G4 := Lib.hid (G3.out.drewN nq)
  have D4 := Lib.hid (D3.out.drewN nq)
  have F4 := Lib.hid (F3.out.drewN nq)
  have HA4 := Lib.hid (HA3.out.drewN nq)
  obtain ⟨W4, hW⟩ : ∃ W', W3.drewN nq = W' := ⟨_, rfl⟩
  rw [hW] at R4 G4 D4 F4 HA4
  first | rw [hW] | skip
  clear hW
  clear nq
  clear g3_0 g3_1 g3_2 g3_3 g3_4 g3_5 a3_0 a3_1 a3_2 a3_3 a3_4 a3_5 g3_z R3 G3 D3 F3 HA3
  have g4_0 := Mem.cell G4.out 0
  have g4_1 := Mem.cell G4.out 1
  have g4_2 := Mem.cell G4.out 2
  have g4_3 := Mem.cell G4.out 3
  have g4_4 := Mem.cell G4.out 4
  have g4_5 := Mem.cell G4.out 5
  have g4_z := G4.out.frozen
  have a4_0 := Mem.cell HA4.out 0
  have a4_1 := Mem.cell HA4.out 1
  have a4_2 := Mem.cell HA4.out 2
  have a4_3 := Mem.cell HA4.out 3
  have a4_4 := Mem.cell HA4.out 4
  have a4_5 := Mem.cell HA4.out 5
  simp at g4_0 g4_1 g4_2 g4_3 g4_4 g4_5 a4_0 a4_1 a4_2 a4_3 a4_4 a4_5
  have r0_0 := Mem.cell R4.out 0
  have r0_1 := Mem.cell R4.out 1
  have r0_2 := Mem.cell R4.out 2
  have r0_3 := Mem.cell R4.out 3
  have r0_4 := Mem.cell R4.out 4
  have r0_5 := Mem.cell R4.out 5
  have r0_z := R4.out.frozen
  go_wp2
  obtain ⟨M5, S5⟩ := store6 R4.out (.int .i64 1) (.int .i64 2) (.int .i64 o) (.int .u64 x) (.int .u64 x) (.bool true)
  have D5 := D4.out.fr (P := fun x => x = w.heap.size) (Fr.of_stay S5 fun x a c => by omega) fun x a c => by omega
  have G5 := mem_fr (P := fun x => x = w.heap.size) G4.out (Fr.of_stay S5 fun x a c => by omega) (by omega)
  have F5 := Fr.then (Q := fun x => x = w.heap.size) F4.out (Fr.of_stay S5 fun x a c => by omega) fun x a c => by omega
  obtain ⟨V, hV⟩ : ∃ V, ((((((W4.setCell ⟨w.heap.size, 0, none⟩ (.int .i64 1)).setCell ⟨w.heap.size, 1, none⟩ (.int .i64 2)).setCell ⟨w.heap.size, 2, none⟩ (.int .i64 o)).setCell ⟨w.heap.size, 3, none⟩ (.int .u64 x)).setCell ⟨w.heap.size, 4, none⟩ (.int .u64 x)).setCell ⟨w.heap.size, 5, none⟩ (.bool true)) = V := ⟨_, rfl⟩
  rw [hV] at M5 D5 F5 G5 ⊢
  refine bodyPost_ret (v := .agg #[.int .i64 1, .int .i64 2, .int .i64 o, .int .u64 x, .int .u64 x, .bool true]) (results_cell_row rfl _ _ w.heap.size 60 #[.int .i64 1, .int .i64 2, .int .i64 o, .int .u64 x, .int .u64 x, .bool true] (0, 0) _ (by simp) M5 Try.underlying60 rfl (by kernel_rfl)) rfl ⟨rfl, D5, G5, F5⟩

theorem rr_s1 {lo hi b rb : Nat} {w : World} {q : Cfg} {A B : Int → List Int} (h : Duo lo hi w b rb q A B) {g : Nat} (hg : g < lo ∨ hi ≤ g) (o r sn vl : Int) (a : Nat) (hl : a < (B 1).length) (y : Int) (hy : (B 1).getD a 0 = y) (M : Mem w g 94 #[.int .i64 a, .int .i64 o, .int .i64 r, .int .i64 1, .int .u64 sn, .int .u64 vl]) : Calls Try.prog 54 #[.pointer (some ⟨g, 0, none⟩), .pointer (some ⟨rb, 0, none⟩)] w fun e w' => e = .returned (accV 1 1 a y y true) ∧ Duo lo hi w' b rb q A B ∧ Mem w' g 94 #[.int .i64 a, .int .i64 o, .int .i64 r, .int .i64 2, .int .u64 sn, .int .u64 y] ∧ Fr (PG lo hi g) w w' := by
  have htop := h.top
  have R0 := Lib.hid (Mem.new w 60 #[.int .i64 0, .int .i64 0, .int .i64 0, .int .u64 0, .int .u64 0, .bool false])
  have G0 := Lib.hid (M.alloc (.cells #[.int .i64 0, .int .i64 0, .int .i64 0, .int .u64 0, .int .u64 0, .bool false] 60))
  have D0 := Lib.hid (h.alloc (.cells #[.int .i64 0, .int .i64 0, .int .i64 0, .int .u64 0, .int .u64 0, .bool false] 60))
  have F0 := Lib.hid ((Fr.refl (PG lo hi g) w).alloc (.cells #[.int .i64 0, .int .i64 0, .int .i64 0, .int .u64 0, .int .u64 0, .bool false] 60))
  have hgw := M.lt
  have hrw := R0.out.lt
  clear h M
  go_enter Try.func54, Try.ntmps54
  go_upto_region 1 with (fail)
  obtain ⟨W0, hW⟩ : ∃ W', w.alloc (.cells #[.int .i64 0, .int .i64 0, .int .i64 0, .int .u64 0, .int .u64 0, .bool false] 60) = W' := ⟨_, rfl⟩
  rw [hW] at R0 G0 D0 F0
  first | rw [hW] | skip
  clear hW
  have g0_0 := Mem.cell G0.out 0
  have g0_1 := Mem.cell G0.out 1
  have g0_2 := Mem.cell G0.out 2
  have g0_3 := Mem.cell G0.out 3
  have g0_4 := Mem.cell G0.out 4
  have g0_5 := Mem.cell G0.out 5
  have g0_z := G0.out.frozen
  simp at g0_0 g0_1 g0_2 g0_3 g0_4 g0_5
  have hc := s_load D0.out 1 (by decide) a hl y hy
  go_upto_region 11 with ((go_at_call 69; refine hc.mono ?_; rintro e w0' ⟨rfl, hD, hS⟩))
  have R1 := Lib.hid ((Mem.of_eq R0.out (hS.block w.heap.size R0.out.lt (.inr htop))).alloc (.cells #[.int .i64 1, .int .i64 1, .int .i64 a, .int .u64 y, .int .u64 y, .bool true] 60))
  have G1 := Lib.hid ((Mem.of_eq G0.out (hS.block g G0.out.lt hg)).alloc (.cells #[.int .i64 1, .int .i64 1, .int .i64 a, .int .u64 y, .int .u64 y, .bool true] 60))
  have D1 := Lib.hid ((hD).alloc (.cells #[.int .i64 1, .int .i64 1, .int .i64 a, .int .u64 y, .int .u64 y, .bool true] 60))
  have F1 := Lib.hid ((F0.out.trans (Fr.of_stay hS fun x a c => .inl ⟨a, c⟩)).alloc (.cells #[.int .i64 1, .int .i64 1, .int .i64 a, .int .u64 y, .int .u64 y, .bool true] 60))
  have HA1 := Lib.hid (Mem.new w0' 60 #[.int .i64 1, .int .i64 1, .int .i64 a, .int .u64 y, .int .u64 y, .bool true])
  have hgat : hi ≤ w0'.heap.size := hD.top
  have hgag : g < w0'.heap.size := Nat.lt_of_lt_of_le G0.out.lt hS.size
  have hgaw : w.heap.size < w0'.heap.size := Nat.lt_of_lt_of_le R0.out.lt hS.size
  obtain ⟨ga, hga⟩ : ∃ ga, w0'.heap.size = ga := ⟨_, rfl⟩
  rw [hga] at HA1 hgat hgaw hgag
  first | rw [hga] | skip
  clear hc hD hS hga
  obtain ⟨W1, hW⟩ : ∃ W', w0'.alloc (.cells #[.int .i64 1, .int .i64 1, .int .i64 a, .int .u64 y, .int .u64 y, .bool true] 60) = W' := ⟨_, rfl⟩
  rw [hW] at R1 G1 D1 F1 HA1
  first | rw [hW] | skip
  clear hW
  clear g0_0 g0_1 g0_2 g0_3 g0_4 g0_5 g0_z R0 G0 D0 F0
  have g1_0 := Mem.cell G1.out 0
  have g1_1 := Mem.cell G1.out 1
  have g1_2 := Mem.cell G1.out 2
  have g1_3 := Mem.cell G1.out 3
  have g1_4 := Mem.cell G1.out 4
  have g1_5 := Mem.cell G1.out 5
  have g1_z := G1.out.frozen
  have a1_0 := Mem.cell HA1.out 0
  have a1_1 := Mem.cell HA1.out 1
  have a1_2 := Mem.cell HA1.out 2
  have a1_3 := Mem.cell HA1.out 3
  have a1_4 := Mem.cell HA1.out 4
  have a1_5 := Mem.cell HA1.out 5
  simp at g1_0 g1_1 g1_2 g1_3 g1_4 g1_5 a1_0 a1_1 a1_2 a1_3 a1_4 a1_5
  go_upto_region 12 with (fail)
  have G2 : Hid (Mem (W1.setCell ⟨g, 5, none⟩ (.int .u64 y)) g 94 #[.int .i64 a, .int .i64 o, .int .i64 r, .int .i64 1, .int .u64 sn, .int .u64 y]) := Lib.hid (by have := G1.out.set_ 5 (.int .u64 y); simpa using this)
  have R2 := Lib.hid (R1.out.far (a := ⟨g, 5, none⟩) (by show w.heap.size ≠ g; omega) (.int .u64 y))
  have D2 := Lib.hid (D1.out.set_ ⟨g, 5, none⟩ hg (.int .u64 y))
  have F2 := Lib.hid (F1.out.set_ ⟨g, 5, none⟩ (.inl (.inr rfl)) (.int .u64 y))
  have HA2 := Lib.hid (HA1.out.far (a := ⟨g, 5, none⟩) (by show ga ≠ g; omega) (.int .u64 y))
  obtain ⟨W2, hW⟩ : ∃ W', W1.setCell ⟨g, 5, none⟩ (.int .u64 y) = W' := ⟨_, rfl⟩
  rw [hW] at R2 G2 D2 F2 HA2
  first | rw [hW] | skip
  clear hW
  clear g1_0 g1_1 g1_2 g1_3 g1_4 g1_5 a1_0 a1_1 a1_2 a1_3 a1_4 a1_5 g1_z R1 G1 D1 F1 HA1
  have g2_0 := Mem.cell G2.out 0
  have g2_1 := Mem.cell G2.out 1
  have g2_2 := Mem.cell G2.out 2
  have g2_3 := Mem.cell G2.out 3
  have g2_4 := Mem.cell G2.out 4
  have g2_5 := Mem.cell G2.out 5
  have g2_z := G2.out.frozen
  have a2_0 := Mem.cell HA2.out 0
  have a2_1 := Mem.cell HA2.out 1
  have a2_2 := Mem.cell HA2.out 2
  have a2_3 := Mem.cell HA2.out 3
  have a2_4 := Mem.cell HA2.out 4
  have a2_5 := Mem.cell HA2.out 5
  simp at g2_0 g2_1 g2_2 g2_3 g2_4 g2_5 a2_0 a2_1 a2_2 a2_3 a2_4 a2_5
  go_upto_region 13 with (fail)
  have G3 : Hid (Mem (W2.setCell ⟨g, 3, none⟩ (.int .i64 2)) g 94 #[.int .i64 a, .int .i64 o, .int .i64 r, .int .i64 2, .int .u64 sn, .int .u64 y]) := Lib.hid (by have := G2.out.set_ 3 (.int .i64 2); simpa using this)
  have R3 := Lib.hid (R2.out.far (a := ⟨g, 3, none⟩) (by show w.heap.size ≠ g; omega) (.int .i64 2))
  have D3 := Lib.hid (D2.out.set_ ⟨g, 3, none⟩ hg (.int .i64 2))
  have F3 := Lib.hid (F2.out.set_ ⟨g, 3, none⟩ (.inl (.inr rfl)) (.int .i64 2))
  have HA3 := Lib.hid (HA2.out.far (a := ⟨g, 3, none⟩) (by show ga ≠ g; omega) (.int .i64 2))
  obtain ⟨W3, hW⟩ : ∃ W', W2.setCell ⟨g, 3, none⟩ (.int .i64 2) = W' := ⟨_, rfl⟩
  rw [hW] at R3 G3 D3 F3 HA3
  first | rw [hW] | skip
  clear hW
  clear g2_0 g2_1 g2_2 g2_3 g2_4 g2_5 a2_0 a2_1 a2_2 a2_3 a2_4 a2_5 g2_z R2 G2 D2 F2 HA2
  have g3_0 := Mem.cell G3.out 0
  have g3_1 := Mem.cell G3.out 1
  have g3_2 := Mem.cell G3.out 2
  have g3_3 := Mem.cell G3.out 3
  have g3_4 := Mem.cell G3.out 4
  have g3_5 := Mem.cell G3.out 5
  have g3_z := G3.out.frozen
  have a3_0 := Mem.cell HA3.out 0
  have a3_1 := Mem.cell HA3.out 1
  have a3_2 := Mem.cell HA3.out 2
  have a3_3 := Mem.cell HA3.out 3
  have a3_4 := Mem.cell HA3.out 4
  have a3_5 := Mem.cell HA3.out 5
  simp at g3_0 g3_1 g3_2 g3_3 g3_4 g3_5 a3_0 a3_1 a3_2 a3_3 a3_4 a3_5
  have r0_0 := Mem.cell R3.out 0
  have r0_1 := Mem.cell R3.out 1
  have r0_2 := Mem.cell R3.out 2
  have r0_3 := Mem.cell R3.out 3
  have r0_4 := Mem.cell R3.out 4
  have r0_5 := Mem.cell R3.out 5
  have r0_z := R3.out.frozen
  go_wp2
  obtain ⟨M5, S5⟩ := store6 R3.out (.int .i64 1) (.int .i64 1) (.int .i64 a) (.int .u64 y) (.int .u64 y) (.bool true)
  have D5 := D3.out.fr (P := fun x => x = w.heap.size) (Fr.of_stay S5 fun x a c => by omega) fun x a c => by omega
  have G5 := mem_fr (P := fun x => x = w.heap.size) G3.out (Fr.of_stay S5 fun x a c => by omega) (by omega)
  have F5 := Fr.then (Q := fun x => x = w.heap.size) F3.out (Fr.of_stay S5 fun x a c => by omega) fun x a c => by omega
  obtain ⟨V, hV⟩ : ∃ V, ((((((W3.setCell ⟨w.heap.size, 0, none⟩ (.int .i64 1)).setCell ⟨w.heap.size, 1, none⟩ (.int .i64 1)).setCell ⟨w.heap.size, 2, none⟩ (.int .i64 a)).setCell ⟨w.heap.size, 3, none⟩ (.int .u64 y)).setCell ⟨w.heap.size, 4, none⟩ (.int .u64 y)).setCell ⟨w.heap.size, 5, none⟩ (.bool true)) = V := ⟨_, rfl⟩
  rw [hV] at M5 D5 F5 G5 ⊢
  refine bodyPost_ret (v := .agg #[.int .i64 1, .int .i64 1, .int .i64 a, .int .u64 y, .int .u64 y, .bool true]) (results_cell_row rfl _ _ w.heap.size 60 #[.int .i64 1, .int .i64 1, .int .i64 a, .int .u64 y, .int .u64 y, .bool true] (0, 0) _ (by simp) M5 Try.underlying60 rfl (by kernel_rfl)) rfl ⟨rfl, D5, G5, F5⟩

theorem rr_s2_yes {lo hi b rb : Nat} {w : World} {q : Cfg} {A B : Int → List Int} (h : Duo lo hi w b rb q A B) {g : Nat} (hg : g < lo ∨ hi ≤ g) (a r sn vl : Int) (o : Nat) (hl : o < (B 2).length) (x : Int) (hx : (B 2).getD o 0 = x) (hd : (x != sn) = true) (M : Mem w g 94 #[.int .i64 a, .int .i64 o, .int .i64 r, .int .i64 2, .int .u64 sn, .int .u64 vl]) : Calls Try.prog 54 #[.pointer (some ⟨g, 0, none⟩), .pointer (some ⟨rb, 0, none⟩)] w fun e w' => e = .returned (accV 1 2 o x x true) ∧ Duo lo hi w' b rb q A B ∧ Mem w' g 94 #[.int .i64 a, .int .i64 o, .int .i64 r, .int .i64 4, .int .u64 sn, .int .u64 vl] ∧ Fr (PG lo hi g) w w' := by
  have htop := h.top
  have R0 := Lib.hid (Mem.new w 60 #[.int .i64 0, .int .i64 0, .int .i64 0, .int .u64 0, .int .u64 0, .bool false])
  have G0 := Lib.hid (M.alloc (.cells #[.int .i64 0, .int .i64 0, .int .i64 0, .int .u64 0, .int .u64 0, .bool false] 60))
  have D0 := Lib.hid (h.alloc (.cells #[.int .i64 0, .int .i64 0, .int .i64 0, .int .u64 0, .int .u64 0, .bool false] 60))
  have F0 := Lib.hid ((Fr.refl (PG lo hi g) w).alloc (.cells #[.int .i64 0, .int .i64 0, .int .i64 0, .int .u64 0, .int .u64 0, .bool false] 60))
  have hgw := M.lt
  have hrw := R0.out.lt
  clear h M
  go_enter Try.func54, Try.ntmps54
  go_upto_region 1 with (fail)
  obtain ⟨W0, hW⟩ : ∃ W', w.alloc (.cells #[.int .i64 0, .int .i64 0, .int .i64 0, .int .u64 0, .int .u64 0, .bool false] 60) = W' := ⟨_, rfl⟩
  rw [hW] at R0 G0 D0 F0
  first | rw [hW] | skip
  clear hW
  have g0_0 := Mem.cell G0.out 0
  have g0_1 := Mem.cell G0.out 1
  have g0_2 := Mem.cell G0.out 2
  have g0_3 := Mem.cell G0.out 3
  have g0_4 := Mem.cell G0.out 4
  have g0_5 := Mem.cell G0.out 5
  have g0_z := G0.out.frozen
  simp at g0_0 g0_1 g0_2 g0_3 g0_4 g0_5
  have hc := s_load D0.out 2 (by decide) o hl x hx
  go_upto_region 16 with ((go_at_call 69; refine hc.mono ?_; rintro e w0' ⟨rfl, hD, hS⟩))
  have R1 := Lib.hid ((Mem.of_eq R0.out (hS.block w.heap.size R0.out.lt (.inr htop))).alloc (.cells #[.int .i64 1, .int .i64 2, .int .i64 o, .int .u64 x, .int .u64 x, .bool true] 60))
  have G1 := Lib.hid ((Mem.of_eq G0.out (hS.block g G0.out.lt hg)).alloc (.cells #[.int .i64 1, .int .i64 2, .int .i64 o, .int .u64 x, .int .u64 x, .bool true] 60))
  have D1 := Lib.hid ((hD).alloc (.cells #[.int .i64 1, .int .i64 2, .int .i64 o, .int .u64 x, .int .u64 x, .bool true] 60))
  have F1 := Lib.hid ((F0.out.trans (Fr.of_stay hS fun x a c => .inl ⟨a, c⟩)).alloc (.cells #[.int .i64 1, .int .i64 2, .int .i64 o, .int .u64 x, .int .u64 x, .bool true] 60))
  have HA1 := Lib.hid (Mem.new w0' 60 #[.int .i64 1, .int .i64 2, .int .i64 o, .int .u64 x, .int .u64 x, .bool true])
  have hgat : hi ≤ w0'.heap.size := hD.top
  have hgag : g < w0'.heap.size := Nat.lt_of_lt_of_le G0.out.lt hS.size
  have hgaw : w.heap.size < w0'.heap.size := Nat.lt_of_lt_of_le R0.out.lt hS.size
  obtain ⟨ga, hga⟩ : ∃ ga, w0'.heap.size = ga := ⟨_, rfl⟩
  rw [hga] at HA1 hgat hgaw hgag
  first | rw [hga] | skip
  clear hc hD hS hga
  obtain ⟨W1, hW⟩ : ∃ W', w0'.alloc (.cells #[.int .i64 1, .int .i64 2, .int .i64 o, .int .u64 x, .int .u64 x, .bool true] 60) = W' := ⟨_, rfl⟩
  rw [hW] at R1 G1 D1 F1 HA1
  first | rw [hW] | skip
  clear hW
  clear g0_0 g0_1 g0_2 g0_3 g0_4 g0_5 g0_z R0 G0 D0 F0
  have g1_0 := Mem.cell G1.out 0
  have g1_1 := Mem.cell G1.out 1
  have g1_2 := Mem.cell G1.out 2
  have g1_3 := Mem.cell G1.out 3
  have g1_4 := Mem.cell G1.out 4
  have g1_5 := Mem.cell G1.out 5
  have g1_z := G1.out.frozen
  have a1_0 := Mem.cell HA1.out 0
  have a1_1 := Mem.cell HA1.out 1
  have a1_2 := Mem.cell HA1.out 2
  have a1_3 := Mem.cell HA1.out 3
  have a1_4 := Mem.cell HA1.out 4
  have a1_5 := Mem.cell HA1.out 5
  simp at g1_0 g1_1 g1_2 g1_3 g1_4 g1_5 a1_0 a1_1 a1_2 a1_3 a1_4 a1_5
  go_upto_region 17 with (fail)
  have G2 : Hid (Mem (W1.setCell ⟨g, 3, none⟩ (.int .i64 3)) g 94 #[.int .i64 a, .int .i64 o, .int .i64 r, .int .i64 3, .int .u64 sn, .int .u64 vl]) := Lib.hid (by have := G1.out.set_ 3 (.int .i64 3); simpa using this)
  have R2 := Lib.hid (R1.out.far (a := ⟨g, 3, none⟩) (by show w.heap.size ≠ g; omega) (.int .i64 3))
  have D2 := Lib.hid (D1.out.set_ ⟨g, 3, none⟩ hg (.int .i64 3))
  have F2 := Lib.hid (F1.out.set_ ⟨g, 3, none⟩ (.inl (.inr rfl)) (.int .i64 3))
  have HA2 := Lib.hid (HA1.out.far (a := ⟨g, 3, none⟩) (by show ga ≠ g; omega) (.int .i64 3))
  obtain ⟨W2, hW⟩ : ∃ W', W1.setCell ⟨g, 3, none⟩ (.int .i64 3) = W' := ⟨_, rfl⟩
  rw [hW] at R2 G2 D2 F2 HA2
  first | rw [hW] | skip
  clear hW
  clear g1_0 g1_1 g1_2 g1_3 g1_4 g1_5 a1_0 a1_1 a1_2 a1_3 a1_4 a1_5 g1_z R1 G1 D1 F1 HA1
  have g2_0 := Mem.cell G2.out 0
  have g2_1 := Mem.cell G2.out 1
  have g2_2 := Mem.cell G2.out 2
  have g2_3 := Mem.cell G2.out 3
  have g2_4 := Mem.cell G2.out 4
  have g2_5 := Mem.cell G2.out 5
  have g2_z := G2.out.frozen
  have a2_0 := Mem.cell HA2.out 0
  have a2_1 := Mem.cell HA2.out 1
  have a2_2 := Mem.cell HA2.out 2
  have a2_3 := Mem.cell HA2.out 3
  have a2_4 := Mem.cell HA2.out 4
  have a2_5 := Mem.cell HA2.out 5
  simp at g2_0 g2_1 g2_2 g2_3 g2_4 g2_5 a2_0 a2_1 a2_2 a2_3 a2_4 a2_5
  go_quiet (fail)
  have R3 := Lib.hid (R2.out.drewN nq)
  have G3 := Lib.hid (G2.out.drewN nq)
  have D3 := Lib.hid (D2.out.drewN nq)
  have F3 := Lib.hid (F2.out.drewN nq)
  have HA3 := Lib.hid (HA2.out.drewN nq)
  obtain ⟨W3, hW⟩ : ∃ W', W2.drewN nq = W' := ⟨_, rfl⟩
  rw [hW] at R3 G3 D3 F3 HA3
  first | rw [hW] | skip
  clear hW
  clear nq
  clear g2_0 g2_1 g2_2 g2_3 g2_4 g2_5 a2_0 a2_1 a2_2 a2_3 a2_4 a2_5 g2_z R2 G2 D2 F2 HA2
  have g3_0 := Mem.cell G3.out 0
  have g3_1 := Mem.cell G3.out 1
  have g3_2 := Mem.cell G3.out 2
  have g3_3 := Mem.cell G3.out 3
  have g3_4 := Mem.cell G3.out 4
  have g3_5 := Mem.cell G3.out 5
  have g3_z := G3.out.frozen
  have a3_0 := Mem.cell HA3.out 0
  have a3_1 := Mem.cell HA3.out 1
  have a3_2 := Mem.cell HA3.out 2
  have a3_3 := Mem.cell HA3.out 3
  have a3_4 := Mem.cell HA3.out 4
  have a3_5 := Mem.cell HA3.out 5
  simp at g3_0 g3_1 g3_2 g3_3 g3_4 g3_5 a3_0 a3_1 a3_2 a3_3 a3_4 a3_5
  go_upto_region 18 with (fail)
  go_upto_region 19 with (fail)
  have G4 : Hid (Mem (W3.setCell ⟨g, 3, none⟩ (.int .i64 4)) g 94 #[.int .i64 a, .int .i64 o, .int .i64 r, .int .i64 4, .int .u64 sn, .int .u64 vl]) := Lib.hid (by have := G3.out.set_ 3 (.int .i64 4); simpa using this)
  have R4 := Lib.hid (R3.out.far (a := ⟨g, 3, none⟩) (by show w.heap.size ≠ g; omega) (.int .i64 4))
  have D4 := Lib.hid (D3.out.set_ ⟨g, 3, none⟩ hg (.int .i64 4))
  have F4 := Lib.hid (F3.out.set_ ⟨g, 3, none⟩ (.inl (.inr rfl)) (.int .i64 4))
  have HA4 := Lib.hid (HA3.out.far (a := ⟨g, 3, none⟩) (by show ga ≠ g; omega) (.int .i64 4))
  obtain ⟨W4, hW⟩ : ∃ W', W3.setCell ⟨g, 3, none⟩ (.int .i64 4) = W' := ⟨_, rfl⟩
  rw [hW] at R4 G4 D4 F4 HA4
  first | rw [hW] | skip
  clear hW
  clear g3_0 g3_1 g3_2 g3_3 g3_4 g3_5 a3_0 a3_1 a3_2 a3_3 a3_4 a3_5 g3_z R3 G3 D3 F3 HA3
  have g4_0 := Mem.cell G4.out 0
  have g4_1 := Mem.cell G4.out 1
  have g4_2 := Mem.cell G4.out 2
  have g4_3 := Mem.cell G4.out 3
  have g4_4 := Mem.cell G4.out 4
  have g4_5 := Mem.cell G4.out 5
  have g4_z := G4.out.frozen
  have a4_0 := Mem.cell HA4.out 0
  have a4_1 := Mem.cell HA4.out 1
  have a4_2 := Mem.cell HA4.out 2
  have a4_3 := Mem.cell HA4.out 3
  have a4_4 := Mem.cell HA4.out 4
  have a4_5 := Mem.cell HA4.out 5
  simp at g4_0 g4_1 g4_2 g4_3 g4_4 g4_5 a4_0 a4_1 a4_2 a4_3 a4_4 a4_5
  have r0_0 := Mem.cell R4.out 0
  have r0_1 := Mem.cell R4.out 1
  have r0_2 := Mem.cell R4.out 2
  have r0_3 := Mem.cell R4.out 3
  have r0_4 := Mem.cell R4.out 4
  have r0_5 := Mem.cell R4.out 5
  have r0_z := R4.out.frozen
  go_wp2
  obtain ⟨M5, S5⟩ := store6 R4.out (.int .i64 1) (.int .i64 2) (.int .i64 o) (.int .u64 x) (.int .u64 x) (.bool true)
  have D5 := D4.out.fr (P := fun x => x = w.heap.size) (Fr.of_stay S5 fun x a c => by omega) fun x a c => by omega
  have G5 := mem_fr (P := fun x => x = w.heap.size) G4.out (Fr.of_stay S5 fun x a c => by omega) (by omega)
  have F5 := Fr.then (Q := fun x => x = w.heap.size) F4.out (Fr.of_stay S5 fun x a c => by omega) fun x a c => by omega
  obtain ⟨V, hV⟩ : ∃ V, ((((((W4.setCell ⟨w.heap.size, 0, none⟩ (.int .i64 1)).setCell ⟨w.heap.size, 1, none⟩ (.int .i64 2)).setCell ⟨w.heap.size, 2, none⟩ (.int .i64 o)).setCell ⟨w.heap.size, 3, none⟩ (.int .u64 x)).setCell ⟨w.heap.size, 4, none⟩ (.int .u64 x)).setCell ⟨w.heap.size, 5, none⟩ (.bool true)) = V := ⟨_, rfl⟩
  rw [hV] at M5 D5 F5 G5 ⊢
  refine bodyPost_ret (v := .agg #[.int .i64 1, .int .i64 2, .int .i64 o, .int .u64 x, .int .u64 x, .bool true]) (results_cell_row rfl _ _ w.heap.size 60 #[.int .i64 1, .int .i64 2, .int .i64 o, .int .u64 x, .int .u64 x, .bool true] (0, 0) _ (by simp) M5 Try.underlying60 rfl (by kernel_rfl)) rfl ⟨rfl, D5, G5, F5⟩

theorem rr_s2_no {lo hi b rb : Nat} {w : World} {q : Cfg} {A B : Int → List Int} (h : Duo lo hi w b rb q A B) {g : Nat} (hg : g < lo ∨ hi ≤ g) (a r sn vl : Int) (o : Nat) (hl : o < (B 2).length) (x : Int) (hx : (B 2).getD o 0 = x) (hd : (x != sn) = false) (M : Mem w g 94 #[.int .i64 a, .int .i64 o, .int .i64 r, .int .i64 2, .int .u64 sn, .int .u64 vl]) : Calls Try.prog 54 #[.pointer (some ⟨g, 0, none⟩), .pointer (some ⟨rb, 0, none⟩)] w fun e w' => e = .returned (accV 1 2 o x x true) ∧ Duo lo hi w' b rb q A B ∧ Mem w' g 94 #[.int .i64 a, .int .i64 o, .int .i64 r, .int .i64 3, .int .u64 sn, .int .u64 vl] ∧ Fr (PG lo hi g) w w' := by
  have htop := h.top
  have R0 := Lib.hid (Mem.new w 60 #[.int .i64 0, .int .i64 0, .int .i64 0, .int .u64 0, .int .u64 0, .bool false])
  have G0 := Lib.hid (M.alloc (.cells #[.int .i64 0, .int .i64 0, .int .i64 0, .int .u64 0, .int .u64 0, .bool false] 60))
  have D0 := Lib.hid (h.alloc (.cells #[.int .i64 0, .int .i64 0, .int .i64 0, .int .u64 0, .int .u64 0, .bool false] 60))
  have F0 := Lib.hid ((Fr.refl (PG lo hi g) w).alloc (.cells #[.int .i64 0, .int .i64 0, .int .i64 0, .int .u64 0, .int .u64 0, .bool false] 60))
  have hgw := M.lt
  have hrw := R0.out.lt
  clear h M
  go_enter Try.func54, Try.ntmps54
  go_upto_region 1 with (fail)
  obtain ⟨W0, hW⟩ : ∃ W', w.alloc (.cells #[.int .i64 0, .int .i64 0, .int .i64 0, .int .u64 0, .int .u64 0, .bool false] 60) = W' := ⟨_, rfl⟩
  rw [hW] at R0 G0 D0 F0
  first | rw [hW] | skip
  clear hW
  have g0_0 := Mem.cell G0.out 0
  have g0_1 := Mem.cell G0.out 1
  have g0_2 := Mem.cell G0.out 2
  have g0_3 := Mem.cell G0.out 3
  have g0_4 := Mem.cell G0.out 4
  have g0_5 := Mem.cell G0.out 5
  have g0_z := G0.out.frozen
  simp at g0_0 g0_1 g0_2 g0_3 g0_4 g0_5
  have hc := s_load D0.out 2 (by decide) o hl x hx
  go_upto_region 16 with ((go_at_call 69; refine hc.mono ?_; rintro e w0' ⟨rfl, hD, hS⟩))
  have R1 := Lib.hid ((Mem.of_eq R0.out (hS.block w.heap.size R0.out.lt (.inr htop))).alloc (.cells #[.int .i64 1, .int .i64 2, .int .i64 o, .int .u64 x, .int .u64 x, .bool true] 60))
  have G1 := Lib.hid ((Mem.of_eq G0.out (hS.block g G0.out.lt hg)).alloc (.cells #[.int .i64 1, .int .i64 2, .int .i64 o, .int .u64 x, .int .u64 x, .bool true] 60))
  have D1 := Lib.hid ((hD).alloc (.cells #[.int .i64 1, .int .i64 2, .int .i64 o, .int .u64 x, .int .u64 x, .bool true] 60))
  have F1 := Lib.hid ((F0.out.trans (Fr.of_stay hS fun x a c => .inl ⟨a, c⟩)).alloc (.cells #[.int .i64 1, .int .i64 2, .int .i64 o, .int .u64 x, .int .u64 x, .bool true] 60))
  have HA1 := Lib.hid (Mem.new w0' 60 #[.int .i64 1, .int .i64 2, .int .i64 o, .int .u64 x, .int .u64 x, .bool true])
  have hgat : hi ≤ w0'.heap.size := hD.top
  have hgag : g < w0'.heap.size := Nat.lt_of_lt_of_le G0.out.lt hS.size
  have hgaw : w.heap.size < w0'.heap.size := Nat.lt_of_lt_of_le R0.out.lt hS.size
  obtain ⟨ga, hga⟩ : ∃ ga, w0'.heap.size = ga := ⟨_, rfl⟩
  rw [hga] at HA1 hgat hgaw hgag
  first | rw [hga] | skip
  clear hc hD hS hga
  obtain ⟨W1, hW⟩ : ∃ W', w0'.alloc (.cells #[.int .i64 1, .int .i64 2, .int .i64 o, .int .u64 x, .int .u64 x, .bool true] 60) = W' := ⟨_, rfl⟩
  rw [hW] at R1 G1 D1 F1 HA1
  first | rw [hW] | skip
  clear hW
  clear g0_0 g0_1 g0_2 g0_3 g0_4 g0_5 g0_z R0 G0 D0 F0
  have g1_0 := Mem.cell G1.out 0
  have g1_1 := Mem.cell G1.out 1
  have g1_2 := Mem.cell G1.out 2
  have g1_3 := Mem.cell G1.out 3
  have g1_4 := Mem.cell G1.out 4
  have g1_5 := Mem.cell G1.out 5
  have g1_z := G1.out.frozen
  have a1_0 := Mem.cell HA1.out 0
  have a1_1 := Mem.cell HA1.out 1
  have a1_2 := Mem.cell HA1.out 2
  have a1_3 := Mem.cell HA1.out 3
  have a1_4 := Mem.cell HA1.out 4
  have a1_5 := Mem.cell HA1.out 5
  simp at g1_0 g1_1 g1_2 g1_3 g1_4 g1_5 a1_0 a1_1 a1_2 a1_3 a1_4 a1_5
  go_upto_region 17 with (fail)
  have G2 : Hid (Mem (W1.setCell ⟨g, 3, none⟩ (.int .i64 3)) g 94 #[.int .i64 a, .int .i64 o, .int .i64 r, .int .i64 3, .int .u64 sn, .int .u64 vl]) := Lib.hid (by have := G1.out.set_ 3 (.int .i64 3); simpa using this)
  have R2 := Lib.hid (R1.out.far (a := ⟨g, 3, none⟩) (by show w.heap.size ≠ g; omega) (.int .i64 3))
  have D2 := Lib.hid (D1.out.set_ ⟨g, 3, none⟩ hg (.int .i64 3))
  have F2 := Lib.hid (F1.out.set_ ⟨g, 3, none⟩ (.inl (.inr rfl)) (.int .i64 3))
  have HA2 := Lib.hid (HA1.out.far (a := ⟨g, 3, none⟩) (by show ga ≠ g; omega) (.int .i64 3))
  obtain ⟨W2, hW⟩ : ∃ W', W1.setCell ⟨g, 3, none⟩ (.int .i64 3) = W' := ⟨_, rfl⟩
  rw [hW] at R2 G2 D2 F2 HA2
  first | rw [hW] | skip
  clear hW
  clear g1_0 g1_1 g1_2 g1_3 g1_4 g1_5 a1_0 a1_1 a1_2 a1_3 a1_4 a1_5 g1_z R1 G1 D1 F1 HA1
  have g2_0 := Mem.cell G2.out 0
  have g2_1 := Mem.cell G2.out 1
  have g2_2 := Mem.cell G2.out 2
  have g2_3 := Mem.cell G2.out 3
  have g2_4 := Mem.cell G2.out 4
  have g2_5 := Mem.cell G2.out 5
  have g2_z := G2.out.frozen
  have a2_0 := Mem.cell HA2.out 0
  have a2_1 := Mem.cell HA2.out 1
  have a2_2 := Mem.cell HA2.out 2
  have a2_3 := Mem.cell HA2.out 3
  have a2_4 := Mem.cell HA2.out 4
  have a2_5 := Mem.cell HA2.out 5
  simp at g2_0 g2_1 g2_2 g2_3 g2_4 g2_5 a2_0 a2_1 a2_2 a2_3 a2_4 a2_5
  go_quiet (fail)
  have R3 := Lib.hid (R2.out.drewN nq)
  have G3 := Lib.hid (G2.out.drewN nq)
  have D3 := Lib.hid (D2.out.drewN nq)
  have F3 := Lib.hid (F2.out.drewN nq)
  have HA3 := Lib.hid (HA2.out.drewN nq)
  obtain ⟨W3, hW⟩ : ∃ W', W2.drewN nq = W' := ⟨_, rfl⟩
  rw [hW] at R3 G3 D3 F3 HA3
  first | rw [hW] | skip
  clear hW
  clear nq
  clear g2_0 g2_1 g2_2 g2_3 g2_4 g2_5 a2_0 a2_1 a2_2 a2_3 a2_4 a2_5 g2_z R2 G2 D2 F2 HA2
  have g3_0 := Mem.cell G3.out 0
  have g3_1 := Mem.cell G3.out 1
  have g3_2 := Mem.cell G3.out 2
  have g3_3 := Mem.cell G3.out 3
  have g3_4 := Mem.cell G3.out 4
  have g3_5 := Mem.cell G3.out 5
  have g3_z := G3.out.frozen
  have a3_0 := Mem.cell HA3.out 0
  have a3_1 := Mem.cell HA3.out 1
  have a3_2 := Mem.cell HA3.out 2
  have a3_3 := Mem.cell HA3.out 3
  have a3_4 := Mem.cell HA3.out 4
  have a3_5 := Mem.cell HA3.out 5
  simp at g3_0 g3_1 g3_2 g3_3 g3_4 g3_5 a3_0 a3_1 a3_2 a3_3 a3_4 a3_5
  have r0_0 := Mem.cell R3.out 0
  have r0_1 := Mem.cell R3.out 1
  have r0_2 := Mem.cell R3.out 2
  have r0_3 := Mem.cell R3.out 3
  have r0_4 := Mem.cell R3.out 4
  have r0_5 := Mem.cell R3.out 5
  have r0_z := R3.out.frozen
  go_wp2
  obtain ⟨M5, S5⟩ := store6 R3.out (.int .i64 1) (.int .i64 2) (.int .i64 o) (.int .u64 x) (.int .u64 x) (.bool true)
  have D5 := D3.out.fr (P := fun x => x = w.heap.size) (Fr.of_stay S5 fun x a c => by omega) fun x a c => by omega
  have G5 := mem_fr (P := fun x => x = w.heap.size) G3.out (Fr.of_stay S5 fun x a c => by omega) (by omega)
  have F5 := Fr.then (Q := fun x => x = w.heap.size) F3.out (Fr.of_stay S5 fun x a c => by omega) fun x a c => by omega
  obtain ⟨V, hV⟩ : ∃ V, ((((((W3.setCell ⟨w.heap.size, 0, none⟩ (.int .i64 1)).setCell ⟨w.heap.size, 1, none⟩ (.int .i64 2)).setCell ⟨w.heap.size, 2, none⟩ (.int .i64 o)).setCell ⟨w.heap.size, 3, none⟩ (.int .u64 x)).setCell ⟨w.heap.size, 4, none⟩ (.int .u64 x)).setCell ⟨w.heap.size, 5, none⟩ (.bool true)) = V := ⟨_, rfl⟩
  rw [hV] at M5 D5 F5 G5 ⊢
  refine bodyPost_ret (v := .agg #[.int .i64 1, .int .i64 2, .int .i64 o, .int .u64 x, .int .u64 x, .bool true]) (results_cell_row rfl _ _ w.heap.size 60 #[.int .i64 1, .int .i64 2, .int .i64 o, .int .u64 x, .int .u64 x, .bool true] (0, 0) _ (by simp) M5 Try.underlying60 rfl (by kernel_rfl)) rfl ⟨rfl, D5, G5, F5⟩

theorem rr_s3 {lo hi b rb : Nat} {w : World} {q : Cfg} {A B : Int → List Int} (h : Duo lo hi w b rb q A B) {g : Nat} (hg : g < lo ∨ hi ≤ g) (a o r sn vl : Int) (M : Mem w g 94 #[.int .i64 a, .int .i64 o, .int .i64 r, .int .i64 3, .int .u64 sn, .int .u64 vl]) : Calls Try.prog 54 #[.pointer (some ⟨g, 0, none⟩), .pointer (some ⟨rb, 0, none⟩)] w fun e w' => e = .returned (accV 0 0 0 0 0 false) ∧ Duo lo hi w' b rb q A B ∧ Mem w' g 94 #[.int .i64 a, .int .i64 o, .int .i64 r, .int .i64 3, .int .u64 sn, .int .u64 vl] ∧ Fr (PG lo hi g) w w' := by
  have htop := h.top
  have R0 := Lib.hid (Mem.new w 60 #[.int .i64 0, .int .i64 0, .int .i64 0, .int .u64 0, .int .u64 0, .bool false])
  have G0 := Lib.hid (M.alloc (.cells #[.int .i64 0, .int .i64 0, .int .i64 0, .int .u64 0, .int .u64 0, .bool false] 60))
  have D0 := Lib.hid (h.alloc (.cells #[.int .i64 0, .int .i64 0, .int .i64 0, .int .u64 0, .int .u64 0, .bool false] 60))
  have F0 := Lib.hid ((Fr.refl (PG lo hi g) w).alloc (.cells #[.int .i64 0, .int .i64 0, .int .i64 0, .int .u64 0, .int .u64 0, .bool false] 60))
  have hgw := M.lt
  have hrw := R0.out.lt
  clear h M
  go_enter Try.func54, Try.ntmps54
  go_upto_region 1 with (fail)
  obtain ⟨W0, hW⟩ : ∃ W', w.alloc (.cells #[.int .i64 0, .int .i64 0, .int .i64 0, .int .u64 0, .int .u64 0, .bool false] 60) = W' := ⟨_, rfl⟩
  rw [hW] at R0 G0 D0 F0
  first | rw [hW] | skip
  clear hW
  have g0_0 := Mem.cell G0.out 0
  have g0_1 := Mem.cell G0.out 1
  have g0_2 := Mem.cell G0.out 2
  have g0_3 := Mem.cell G0.out 3
  have g0_4 := Mem.cell G0.out 4
  have g0_5 := Mem.cell G0.out 5
  have g0_z := G0.out.frozen
  simp at g0_0 g0_1 g0_2 g0_3 g0_4 g0_5
  have r0_0 := Mem.cell R0.out 0
  have r0_1 := Mem.cell R0.out 1
  have r0_2 := Mem.cell R0.out 2
  have r0_3 := Mem.cell R0.out 3
  have r0_4 := Mem.cell R0.out 4
  have r0_5 := Mem.cell R0.out 5
  have r0_z := R0.out.frozen
  go_wp2
  obtain ⟨M5, S5⟩ := store6 R0.out (.int .i64 0) (.int .i64 0) (.int .i64 0) (.int .u64 0) (.int .u64 0) (.bool false)
  have D5 := D0.out.fr (P := fun x => x = w.heap.size) (Fr.of_stay S5 fun x a c => by omega) fun x a c => by omega
  have G5 := mem_fr (P := fun x => x = w.heap.size) G0.out (Fr.of_stay S5 fun x a c => by omega) (by omega)
  have F5 := Fr.then (Q := fun x => x = w.heap.size) F0.out (Fr.of_stay S5 fun x a c => by omega) fun x a c => by omega
  obtain ⟨V, hV⟩ : ∃ V, ((((((W0.setCell ⟨w.heap.size, 0, none⟩ (.int .i64 0)).setCell ⟨w.heap.size, 1, none⟩ (.int .i64 0)).setCell ⟨w.heap.size, 2, none⟩ (.int .i64 0)).setCell ⟨w.heap.size, 3, none⟩ (.int .u64 0)).setCell ⟨w.heap.size, 4, none⟩ (.int .u64 0)).setCell ⟨w.heap.size, 5, none⟩ (.bool false)) = V := ⟨_, rfl⟩
  rw [hV] at M5 D5 F5 G5 ⊢
  refine bodyPost_ret (v := .agg #[.int .i64 0, .int .i64 0, .int .i64 0, .int .u64 0, .int .u64 0, .bool false]) (results_cell_row rfl _ _ w.heap.size 60 #[.int .i64 0, .int .i64 0, .int .i64 0, .int .u64 0, .int .u64 0, .bool false] (0, 0) _ (by simp) M5 Try.underlying60 rfl (by kernel_rfl)) rfl ⟨rfl, D5, G5, F5⟩

theorem rr_s4 {lo hi b rb : Nat} {w : World} {q : Cfg} {A B : Int → List Int} (h : Duo lo hi w b rb q A B) {g : Nat} (hg : g < lo ∨ hi ≤ g) (a o r sn vl : Int) (M : Mem w g 94 #[.int .i64 a, .int .i64 o, .int .i64 r, .int .i64 4, .int .u64 sn, .int .u64 vl]) : Calls Try.prog 54 #[.pointer (some ⟨g, 0, none⟩), .pointer (some ⟨rb, 0, none⟩)] w fun e w' => e = .returned (accV 0 0 0 0 0 false) ∧ Duo lo hi w' b rb q A B ∧ Mem w' g 94 #[.int .i64 a, .int .i64 o, .int .i64 r, .int .i64 4, .int .u64 sn, .int .u64 vl] ∧ Fr (PG lo hi g) w w' := by
  have htop := h.top
  have R0 := Lib.hid (Mem.new w 60 #[.int .i64 0, .int .i64 0, .int .i64 0, .int .u64 0, .int .u64 0, .bool false])
  have G0 := Lib.hid (M.alloc (.cells #[.int .i64 0, .int .i64 0, .int .i64 0, .int .u64 0, .int .u64 0, .bool false] 60))
  have D0 := Lib.hid (h.alloc (.cells #[.int .i64 0, .int .i64 0, .int .i64 0, .int .u64 0, .int .u64 0, .bool false] 60))
  have F0 := Lib.hid ((Fr.refl (PG lo hi g) w).alloc (.cells #[.int .i64 0, .int .i64 0, .int .i64 0, .int .u64 0, .int .u64 0, .bool false] 60))
  have hgw := M.lt
  have hrw := R0.out.lt
  clear h M
  go_enter Try.func54, Try.ntmps54
  go_upto_region 1 with (fail)
  obtain ⟨W0, hW⟩ : ∃ W', w.alloc (.cells #[.int .i64 0, .int .i64 0, .int .i64 0, .int .u64 0, .int .u64 0, .bool false] 60) = W' := ⟨_, rfl⟩
  rw [hW] at R0 G0 D0 F0
  first | rw [hW] | skip
  clear hW
  have g0_0 := Mem.cell G0.out 0
  have g0_1 := Mem.cell G0.out 1
  have g0_2 := Mem.cell G0.out 2
  have g0_3 := Mem.cell G0.out 3
  have g0_4 := Mem.cell G0.out 4
  have g0_5 := Mem.cell G0.out 5
  have g0_z := G0.out.frozen
  simp at g0_0 g0_1 g0_2 g0_3 g0_4 g0_5
  have r0_0 := Mem.cell R0.out 0
  have r0_1 := Mem.cell R0.out 1
  have r0_2 := Mem.cell R0.out 2
  have r0_3 := Mem.cell R0.out 3
  have r0_4 := Mem.cell R0.out 4
  have r0_5 := Mem.cell R0.out 5
  have r0_z := R0.out.frozen
  go_wp2
  obtain ⟨M5, S5⟩ := store6 R0.out (.int .i64 0) (.int .i64 0) (.int .i64 0) (.int .u64 0) (.int .u64 0) (.bool false)
  have D5 := D0.out.fr (P := fun x => x = w.heap.size) (Fr.of_stay S5 fun x a c => by omega) fun x a c => by omega
  have G5 := mem_fr (P := fun x => x = w.heap.size) G0.out (Fr.of_stay S5 fun x a c => by omega) (by omega)
  have F5 := Fr.then (Q := fun x => x = w.heap.size) F0.out (Fr.of_stay S5 fun x a c => by omega) fun x a c => by omega
  obtain ⟨V, hV⟩ : ∃ V, ((((((W0.setCell ⟨w.heap.size, 0, none⟩ (.int .i64 0)).setCell ⟨w.heap.size, 1, none⟩ (.int .i64 0)).setCell ⟨w.heap.size, 2, none⟩ (.int .i64 0)).setCell ⟨w.heap.size, 3, none⟩ (.int .u64 0)).setCell ⟨w.heap.size, 4, none⟩ (.int .u64 0)).setCell ⟨w.heap.size, 5, none⟩ (.bool false)) = V := ⟨_, rfl⟩
  rw [hV] at M5 D5 F5 G5 ⊢
  refine bodyPost_ret (v := .agg #[.int .i64 0, .int .i64 0, .int .i64 0, .int .u64 0, .int .u64 0, .bool false]) (results_cell_row rfl _ _ w.heap.size 60 #[.int .i64 0, .int .i64 0, .int .i64 0, .int .u64 0, .int .u64 0, .bool false] (0, 0) _ (by simp) M5 Try.underlying60 rfl (by kernel_rfl)) rfl ⟨rfl, D5, G5, F5⟩

theorem rr_done (g : Nat) (a o r t sn vl : Int) (w : World) (M : Mem w g 94 #[.int .i64 a, .int .i64 o, .int .i64 r, .int .i64 t, .int .u64 sn, .int .u64 vl]) : Calls Try.prog 56 #[.pointer (some ⟨g, 0, none⟩)] w fun e w' => e = .returned (.bool (decide (3 ≤ t))) ∧ w = w' := by
  have c3 := M.cell 3
  simp at c3
  clear M
  go_enter Try.func56, Try.ntmps56
  go_wp2
  go_ret
  exact ⟨rfl, rfl⟩

theorem rr_new (a o r : Int) (w : World) : Calls Try.prog 51 #[.int .i64 a, .int .i64 o, .int .i64 r] w fun e w' => e = .returned (.pointer (some ⟨w.heap.size, 0, none⟩)) ∧ w' = w.alloc (.cells #[.int .i64 a, .int .i64 o, .int .i64 r, .int .i64 0, .int .u64 0, .int .u64 0] 94) := by
  go_enter Try.func51, Try.ntmps51
  go_wp2
  go_ret
  exact ⟨rfl, rfl⟩

end Go.Proofs.Ytcbhpoajpingcaa.RdB
