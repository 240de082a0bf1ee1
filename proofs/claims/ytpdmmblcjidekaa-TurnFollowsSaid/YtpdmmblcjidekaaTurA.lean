/-
  Contracts of package turn and of its reference, over the cells of both machines.
-/
import Derived.Test.YtpdmmblcjidekaaLabS
import Derived.Test.YtpdmmblcjidekaaWordE
namespace Go.Proofs.Ytpdmmblcjidekaa.TurA
open Go.ChangeShapes Go.WideShapes Go.ChangeAt Go.RowKit
open PlainT BlkW LayS LayA CelS CelM CelP CelV CelN CelO CelF LabD LabR LabP LabS CelLo
set_option linter.unusedVariables false
set_option maxHeartbeats 1000000
set_option maxRecDepth 100000

theorem d_add {lo hi b rb : Nat} {w : World} {q : Cfg} {A B : Int → List Int} (h : Duo lo hi w b rb q A B) (k : Int) (hk : 1 ≤ k ∧ k ≤ 8) (i : Nat) (hlt : i < (A k).length) (x : Int) (hx : (A k).getD i 0 = x) (v s : Int) (hs : IntKind.u64.wrap (x + v) = s) : Calls Try.prog 27 #[.pointer (some ⟨b, 0, none⟩), .int .i64 k, .int .i64 i, .int .u64 v] w fun e w' => e = .returned (.tuple #[accV 4 k i x s true, .int .i64 0]) ∧ Duo lo hi w' b rb q (upd A k i s) B ∧ Stay lo hi w w' := by
  obtain ⟨m1, m2, h1, h2, hm, ho⟩ := h
  refine (CelO.m_add lo m1 w b A h1 k hk i hlt x hx v s (Lib.hid hs)).mono ?_
  rintro e w' ⟨he, hI, hS⟩
  exact ⟨he, Duo.left h2 hm ho hI hS⟩
theorem s_add {lo hi b rb : Nat} {w : World} {q : Cfg} {A B : Int → List Int} (h : Duo lo hi w b rb q A B) (k : Int) (hk : 1 ≤ k ∧ k ≤ 8) (i : Nat) (hlt : i < (B k).length) (x : Int) (hx : (B k).getD i 0 = x) (v s : Int) (hs : IntKind.u64.wrap (x + v) = s) : Calls Try.prog 81 #[.pointer (some ⟨rb, 0, none⟩), .int .i64 k, .int .i64 i, .int .u64 v] w fun e w' => e = .returned (accV 4 k i x s true) ∧ Duo lo hi w' b rb q A (upd B k i s) ∧ Stay lo hi w w' := by
  obtain ⟨m1, m2, h1, h2, hm, ho⟩ := h
  refine (r_add m2 hi w rb q B h2 ho k hk i hlt x hx v s hs).mono ?_
  rintro e w' ⟨he, hI, hS⟩
  exact ⟨he, Duo.right h1 hm (upd_out hk ho) hI hS⟩

theorem t_step0 {lo hi b rb : Nat} {w : World} {q : Cfg} {A B : Int → List Int} (h : Duo lo hi w b rb q A B) {g : Nat} (hg : g < lo ∨ hi ≤ g) (k : Int) (t : Int) (hl : 0 < (A 4).length) (hx : (A 4).getD 0 0 = t) (h0 : 0 ≤ t) (h1 : t ≤ 1099511627776) (M : Mem w g 138 #[.int .i64 0, .int .i64 k]) : Calls Try.prog 58 #[.pointer (some ⟨g, 0, none⟩), .pointer (some ⟨b, 0, none⟩)] w fun e w' => e = .returned (accV 4 4 0 t ((t + 1)) true) ∧ Duo lo hi w' b rb q (upd A 4 0 (t + 1)) B ∧ Mem w' g 138 #[.int .i64 1, .int .i64 t] ∧ Fr (PG lo hi g) w w' := by
  have hw1 : IntKind.u64.wrap (t + 1) = t + 1 := IntWalk.u64_in _ (by omega)
  have hw2 : IntKind.i64.wrap t = t := IntWalk.i64_in _ (by omega)
  have htop := h.top
  have R0 := Lib.hid (Mem.new w 52 #[.int .i64 0, .int .i64 0, .int .i64 0, .int .u64 0, .int .u64 0, .bool false])
  have G0 := Lib.hid (M.alloc (.cells #[.int .i64 0, .int .i64 0, .int .i64 0, .int .u64 0, .int .u64 0, .bool false] 52))
  have D0 := Lib.hid (h.alloc (.cells #[.int .i64 0, .int .i64 0, .int .i64 0, .int .u64 0, .int .u64 0, .bool false] 52))
  have F0 := Lib.hid ((Fr.refl (PG lo hi g) w).alloc (.cells #[.int .i64 0, .int .i64 0, .int .i64 0, .int .u64 0, .int .u64 0, .bool false] 52))
  have hgw := M.lt
  have hrw := R0.out.lt
  clear h M
  go_enter Try.func58, Try.ntmps58
  go_upto_region 1 with (fail)
  obtain ⟨W0, hW⟩ : ∃ W', w.alloc (.cells #[.int .i64 0, .int .i64 0, .int .i64 0, .int .u64 0, .int .u64 0, .bool false] 52) = W' := ⟨_, rfl⟩
  rw [hW] at R0 G0 D0 F0
  first | rw [hW] | skip
  clear hW
  have g0_0 := Mem.cell G0.out 0
  have g0_1 := Mem.cell G0.out 1
  have g0_z := G0.out.frozen
  simp at g0_0 g0_1
  go_upto_region 4 with (fail)
  have G1 : Hid (Mem (W0.setCell ⟨g, 0, none⟩ (.int .i64 1)) g 138 #[.int .i64 1, .int .i64 k]) := Lib.hid (by have := G0.out.set_ 0 (.int .i64 1); simpa using this)
  have R1 := Lib.hid (R0.out.far (a := ⟨g, 0, none⟩) (by show w.heap.size ≠ g; omega) (.int .i64 1))
  have D1 := Lib.hid (D0.out.set_ ⟨g, 0, none⟩ hg (.int .i64 1))
  have F1 := Lib.hid (F0.out.set_ ⟨g, 0, none⟩ (.inl (.inr rfl)) (.int .i64 1))
  obtain ⟨W1, hW⟩ : ∃ W', W0.setCell ⟨g, 0, none⟩ (.int .i64 1) = W' := ⟨_, rfl⟩
  rw [hW] at R1 G1 D1 F1
  first | rw [hW] | skip
  clear hW
  clear g0_0 g0_1 g0_z R0 G0 D0 F0
  have g1_0 := Mem.cell G1.out 0
  have g1_1 := Mem.cell G1.out 1
  have g1_z := G1.out.frozen
  simp at g1_0 g1_1
  have hc := d_add D1.out 4 (by decide) 0 hl t hx 1 (t + 1) hw1
  go_upto_region 5 with ((go_at_call 27; refine hc.mono ?_; rintro e w1' ⟨rfl, hD, hS⟩))
  have R2 := Lib.hid ((Mem.of_eq R1.out (hS.block w.heap.size R1.out.lt (.inr htop))).alloc (.cells #[.int .i64 4, .int .i64 4, .int .i64 0, .int .u64 t, .int .u64 (t + 1), .bool true] 52))
  have G2 := Lib.hid ((Mem.of_eq G1.out (hS.block g G1.out.lt hg)).alloc (.cells #[.int .i64 4, .int .i64 4, .int .i64 0, .int .u64 t, .int .u64 (t + 1), .bool true] 52))
  have D2 := Lib.hid ((hD).alloc (.cells #[.int .i64 4, .int .i64 4, .int .i64 0, .int .u64 t, .int .u64 (t + 1), .bool true] 52))
  have F2 := Lib.hid ((F1.out.trans (Fr.of_stay hS fun x a c => .inl ⟨a, c⟩)).alloc (.cells #[.int .i64 4, .int .i64 4, .int .i64 0, .int .u64 t, .int .u64 (t + 1), .bool true] 52))
  have HA2 := Lib.hid (Mem.new w1' 52 #[.int .i64 4, .int .i64 4, .int .i64 0, .int .u64 t, .int .u64 (t + 1), .bool true])
  have hgat : hi ≤ w1'.heap.size := hD.top
  have hgag : g < w1'.heap.size := Nat.lt_of_lt_of_le G1.out.lt hS.size
  have hgaw : w.heap.size < w1'.heap.size := Nat.lt_of_lt_of_le R1.out.lt hS.size
  obtain ⟨ga, hga⟩ : ∃ ga, w1'.heap.size = ga := ⟨_, rfl⟩
  rw [hga] at HA2 hgat hgaw hgag
  first | rw [hga] | skip
  clear hc hD hS hga
  obtain ⟨W2, hW⟩ : ∃ W', w1'.alloc (.cells #[.int .i64 4, .int .i64 4, .int .i64 0, .int .u64 t, .int .u64 (t + 1), .bool true] 52) = W' := ⟨_, rfl⟩
  rw [hW] at R2 G2 D2 F2 HA2
  first | rw [hW] | skip
  clear hW
  clear g1_0 g1_1 g1_z R1 G1 D1 F1
  have g2_0 := Mem.cell G2.out 0
  have g2_1 := Mem.cell G2.out 1
  have g2_z := G2.out.frozen
  have a2_0 := Mem.cell HA2.out 0
  have a2_1 := Mem.cell HA2.out 1
  have a2_2 := Mem.cell HA2.out 2
  have a2_3 := Mem.cell HA2.out 3
  have a2_4 := Mem.cell HA2.out 4
  have a2_5 := Mem.cell HA2.out 5
  simp at g2_0 g2_1 a2_0 a2_1 a2_2 a2_3 a2_4 a2_5
  go_upto_region 6 with (fail)
  have G3 : Hid (Mem (W2.setCell ⟨g, 1, none⟩ (.int .i64 t)) g 138 #[.int .i64 1, .int .i64 t]) := Lib.hid (by have := G2.out.set_ 1 (.int .i64 t); simpa using this)
  have R3 := Lib.hid (R2.out.far (a := ⟨g, 1, none⟩) (by show w.heap.size ≠ g; omega) (.int .i64 t))
  have D3 := Lib.hid (D2.out.set_ ⟨g, 1, none⟩ hg (.int .i64 t))
  have F3 := Lib.hid (F2.out.set_ ⟨g, 1, none⟩ (.inl (.inr rfl)) (.int .i64 t))
  have HA3 := Lib.hid (HA2.out.far (a := ⟨g, 1, none⟩) (by show ga ≠ g; omega) (.int .i64 t))
  obtain ⟨W3, hW⟩ : ∃ W', W2.setCell ⟨g, 1, none⟩ (.int .i64 t) = W' := ⟨_, rfl⟩
  rw [hW] at R3 G3 D3 F3 HA3
  first | rw [hW] | skip
  clear hW
  clear g2_0 g2_1 a2_0 a2_1 a2_2 a2_3 a2_4 a2_5 g2_z R2 G2 D2 F2 HA2
  have g3_0 := Mem.cell G3.out 0
  have g3_1 := Mem.cell G3.out 1
  have g3_z := G3.out.frozen
  have a3_0 := Mem.cell HA3.out 0
  have a3_1 := Mem.cell HA3.out 1
  have a3_2 := Mem.cell HA3.out 2
  have a3_3 := Mem.cell HA3.out 3
  have a3_4 := Mem.cell HA3.out 4
  have a3_5 := Mem.cell HA3.out 5
  simp at g3_0 g3_1 a3_0 a3_1 a3_2 a3_3 a3_4 a3_5
  have r0_0 := Mem.cell R3.out 0
  have r0_1 := Mem.cell R3.out 1
  have r0_2 := Mem.cell R3.out 2
  have r0_3 := Mem.cell R3.out 3
  have r0_4 := Mem.cell R3.out 4
  have r0_5 := Mem.cell R3.out 5
  have r0_z := R3.out.frozen
  go_wp2
  obtain ⟨M5, S5⟩ := store6 R3.out (.int .i64 4) (.int .i64 4) (.int .i64 0) (.int .u64 t) (.int .u64 (t + 1)) (.bool true)
  have D5 := D3.out.fr (P := fun x => x = w.heap.size) (Fr.of_stay S5 fun x a c => by omega) fun x a c => by omega
  have G5 := mem_fr (P := fun x => x = w.heap.size) G3.out (Fr.of_stay S5 fun x a c => by omega) (by omega)
  have F5 := Fr.then (Q := fun x => x = w.heap.size) F3.out (Fr.of_stay S5 fun x a c => by omega) fun x a c => by omega
  obtain ⟨V, hV⟩ : ∃ V, ((((((W3.setCell ⟨w.heap.size, 0, none⟩ (.int .i64 4)).setCell ⟨w.heap.size, 1, none⟩ (.int .i64 4)).setCell ⟨w.heap.size, 2, none⟩ (.int .i64 0)).setCell ⟨w.heap.size, 3, none⟩ (.int .u64 t)).setCell ⟨w.heap.size, 4, none⟩ (.int .u64 (t + 1))).setCell ⟨w.heap.size, 5, none⟩ (.bool true)) = V := ⟨_, rfl⟩
  rw [hV] at M5 D5 F5 G5 ⊢
  refine bodyPost_ret (v := .agg #[.int .i64 4, .int .i64 4, .int .i64 0, .int .u64 t, .int .u64 (t + 1), .bool true]) (results_cell_row rfl _ _ w.heap.size 52 #[.int .i64 4, .int .i64 4, .int .i64 0, .int .u64 t, .int .u64 (t + 1), .bool true] (0, 0) _ (by simp) M5 Try.underlying52 rfl (by kernel_rfl)) rfl ⟨rfl, D5, G5, F5⟩

theorem t_step1_yes {lo hi b rb : Nat} {w : World} {q : Cfg} {A B : Int → List Int} (h : Duo lo hi w b rb q A B) {g : Nat} (hg : g < lo ∨ hi ≤ g) (k : Int) (k0 : 0 ≤ k) (k1 : k ≤ 1099511627777) (s : Int) (hl : 0 < (A 5).length) (hx : (A 5).getD 0 0 = s) (he : (s == k) = true) (M : Mem w g 138 #[.int .i64 1, .int .i64 k]) : Calls Try.prog 58 #[.pointer (some ⟨g, 0, none⟩), .pointer (some ⟨b, 0, none⟩)] w fun e w' => e = .returned (accV 1 5 0 s s true) ∧ Duo lo hi w' b rb q A B ∧ Mem w' g 138 #[.int .i64 2, .int .i64 k] ∧ Fr (PG lo hi g) w w' := by
  have hw2 : IntKind.u64.wrap k = k := IntWalk.u64_in _ (by omega)
  have htop := h.top
  have R0 := Lib.hid (Mem.new w 52 #[.int .i64 0, .int .i64 0, .int .i64 0, .int .u64 0, .int .u64 0, .bool false])
  have G0 := Lib.hid (M.alloc (.cells #[.int .i64 0, .int .i64 0, .int .i64 0, .int .u64 0, .int .u64 0, .bool false] 52))
  have D0 := Lib.hid (h.alloc (.cells #[.int .i64 0, .int .i64 0, .int .i64 0, .int .u64 0, .int .u64 0, .bool false] 52))
  have F0 := Lib.hid ((Fr.refl (PG lo hi g) w).alloc (.cells #[.int .i64 0, .int .i64 0, .int .i64 0, .int .u64 0, .int .u64 0, .bool false] 52))
  have hgw := M.lt
  have hrw := R0.out.lt
  clear h M
  go_enter Try.func58, Try.ntmps58
  go_upto_region 1 with (fail)
  obtain ⟨W0, hW⟩ : ∃ W', w.alloc (.cells #[.int .i64 0, .int .i64 0, .int .i64 0, .int .u64 0, .int .u64 0, .bool false] 52) = W' := ⟨_, rfl⟩
  rw [hW] at R0 G0 D0 F0
  first | rw [hW] | skip
  clear hW
  have g0_0 := Mem.cell G0.out 0
  have g0_1 := Mem.cell G0.out 1
  have g0_z := G0.out.frozen
  simp at g0_0 g0_1
  have hc := d_load D0.out 5 (by decide) 0 hl s hx
  go_upto_region 9 with ((go_at_call 76; refine hc.mono ?_; rintro e w0' ⟨rfl, hD, hS⟩))
  have R1 := Lib.hid ((Mem.of_eq R0.out (hS.block w.heap.size R0.out.lt (.inr htop))).alloc (.cells #[.int .i64 1, .int .i64 5, .int .i64 0, .int .u64 s, .int .u64 s, .bool true] 52))
  have G1 := Lib.hid ((Mem.of_eq G0.out (hS.block g G0.out.lt hg)).alloc (.cells #[.int .i64 1, .int .i64 5, .int .i64 0, .int .u64 s, .int .u64 s, .bool true] 52))
  have D1 := Lib.hid ((hD).alloc (.cells #[.int .i64 1, .int .i64 5, .int .i64 0, .int .u64 s, .int .u64 s, .bool true] 52))
  have F1 := Lib.hid ((F0.out.trans (Fr.of_stay hS fun x a c => .inl ⟨a, c⟩)).alloc (.cells #[.int .i64 1, .int .i64 5, .int .i64 0, .int .u64 s, .int .u64 s, .bool true] 52))
  have HA1 := Lib.hid (Mem.new w0' 52 #[.int .i64 1, .int .i64 5, .int .i64 0, .int .u64 s, .int .u64 s, .bool true])
  have hgat : hi ≤ w0'.heap.size := hD.top
  have hgag : g < w0'.heap.size := Nat.lt_of_lt_of_le G0.out.lt hS.size
  have hgaw : w.heap.size < w0'.heap.size := Nat.lt_of_lt_of_le R0.out.lt hS.size
  obtain ⟨ga, hga⟩ : ∃ ga, w0'.heap.size = ga := ⟨_, rfl⟩
  rw [hga] at HA1 hgat hgaw hgag
  first | rw [hga] | skip
  clear hc hD hS hga
  obtain ⟨W1, hW⟩ : ∃ W', w0'.alloc (.cells #[.int .i64 1, .int .i64 5, .int .i64 0, .int .u64 s, .int .u64 s, .bool true] 52) = W' := ⟨_, rfl⟩
  rw [hW] at R1 G1 D1 F1 HA1
  first | rw [hW] | skip
  clear hW
  clear g0_0 g0_1 g0_z R0 G0 D0 F0
  have g1_0 := Mem.cell G1.out 0
  have g1_1 := Mem.cell G1.out 1
  have g1_z := G1.out.frozen
  have a1_0 := Mem.cell HA1.out 0
  have a1_1 := Mem.cell HA1.out 1
  have a1_2 := Mem.cell HA1.out 2
  have a1_3 := Mem.cell HA1.out 3
  have a1_4 := Mem.cell HA1.out 4
  have a1_5 := Mem.cell HA1.out 5
  simp at g1_0 g1_1 a1_0 a1_1 a1_2 a1_3 a1_4 a1_5
  go_region
  have R2 := Lib.hid (R1.out.drewN 1)
  have G2 := Lib.hid (G1.out.drewN 1)
  have D2 := Lib.hid (D1.out.drewN 1)
  have F2 := Lib.hid (F1.out.drewN 1)
  have HA2 := Lib.hid (HA1.out.drewN 1)
  rw [show W1.drew = W1.drewN 1 from rfl]
  obtain ⟨W2, hW⟩ : ∃ W', W1.drewN 1 = W' := ⟨_, rfl⟩
  rw [hW] at R2 G2 D2 F2 HA2
  first | rw [hW] | skip
  clear hW
  clear g1_0 g1_1 a1_0 a1_1 a1_2 a1_3 a1_4 a1_5 g1_z R1 G1 D1 F1 HA1
  have g2_0 := Mem.cell G2.out 0
  have g2_1 := Mem.cell G2.out 1
  have g2_z := G2.out.frozen
  have a2_0 := Mem.cell HA2.out 0
  have a2_1 := Mem.cell HA2.out 1
  have a2_2 := Mem.cell HA2.out 2
  have a2_3 := Mem.cell HA2.out 3
  have a2_4 := Mem.cell HA2.out 4
  have a2_5 := Mem.cell HA2.out 5
  simp at g2_0 g2_1 a2_0 a2_1 a2_2 a2_3 a2_4 a2_5
  go_upto_region 11 with (fail)
  have G3 : Hid (Mem (W2.setCell ⟨g, 0, none⟩ (.int .i64 2)) g 138 #[.int .i64 2, .int .i64 k]) := Lib.hid (by have := G2.out.set_ 0 (.int .i64 2); simpa using this)
  have R3 := Lib.hid (R2.out.far (a := ⟨g, 0, none⟩) (by show w.heap.size ≠ g; omega) (.int .i64 2))
  have D3 := Lib.hid (D2.out.set_ ⟨g, 0, none⟩ hg (.int .i64 2))
  have F3 := Lib.hid (F2.out.set_ ⟨g, 0, none⟩ (.inl (.inr rfl)) (.int .i64 2))
  have HA3 := Lib.hid (HA2.out.far (a := ⟨g, 0, none⟩) (by show ga ≠ g; omega) (.int .i64 2))
  obtain ⟨W3, hW⟩ : ∃ W', W2.setCell ⟨g, 0, none⟩ (.int .i64 2) = W' := ⟨_, rfl⟩
  rw [hW] at R3 G3 D3 F3 HA3
  first | rw [hW] | skip
  clear hW
  clear g2_0 g2_1 a2_0 a2_1 a2_2 a2_3 a2_4 a2_5 g2_z R2 G2 D2 F2 HA2
  have g3_0 := Mem.cell G3.out 0
  have g3_1 := Mem.cell G3.out 1
  have g3_z := G3.out.frozen
  have a3_0 := Mem.cell HA3.out 0
  have a3_1 := Mem.cell HA3.out 1
  have a3_2 := Mem.cell HA3.out 2
  have a3_3 := Mem.cell HA3.out 3
  have a3_4 := Mem.cell HA3.out 4
  have a3_5 := Mem.cell HA3.out 5
  simp at g3_0 g3_1 a3_0 a3_1 a3_2 a3_3 a3_4 a3_5
  have r0_0 := Mem.cell R3.out 0
  have r0_1 := Mem.cell R3.out 1
  have r0_2 := Mem.cell R3.out 2
  have r0_3 := Mem.cell R3.out 3
  have r0_4 := Mem.cell R3.out 4
  have r0_5 := Mem.cell R3.out 5
  have r0_z := R3.out.frozen
  go_wp2
  obtain ⟨M5, S5⟩ := store6 R3.out (.int .i64 1) (.int .i64 5) (.int .i64 0) (.int .u64 s) (.int .u64 s) (.bool true)
  have D5 := D3.out.fr (P := fun x => x = w.heap.size) (Fr.of_stay S5 fun x a c => by omega) fun x a c => by omega
  have G5 := mem_fr (P := fun x => x = w.heap.size) G3.out (Fr.of_stay S5 fun x a c => by omega) (by omega)
  have F5 := Fr.then (Q := fun x => x = w.heap.size) F3.out (Fr.of_stay S5 fun x a c => by omega) fun x a c => by omega
  obtain ⟨V, hV⟩ : ∃ V, ((((((W3.setCell ⟨w.heap.size, 0, none⟩ (.int .i64 1)).setCell ⟨w.heap.size, 1, none⟩ (.int .i64 5)).setCell ⟨w.heap.size, 2, none⟩ (.int .i64 0)).setCell ⟨w.heap.size, 3, none⟩ (.int .u64 s)).setCell ⟨w.heap.size, 4, none⟩ (.int .u64 s)).setCell ⟨w.heap.size, 5, none⟩ (.bool true)) = V := ⟨_, rfl⟩
  rw [hV] at M5 D5 F5 G5 ⊢
  refine bodyPost_ret (v := .agg #[.int .i64 1, .int .i64 5, .int .i64 0, .int .u64 s, .int .u64 s, .bool true]) (results_cell_row rfl _ _ w.heap.size 52 #[.int .i64 1, .int .i64 5, .int .i64 0, .int .u64 s, .int .u64 s, .bool true] (0, 0) _ (by simp) M5 Try.underlying52 rfl (by kernel_rfl)) rfl ⟨rfl, D5, G5, F5⟩

theorem t_step1_no {lo hi b rb : Nat} {w : World} {q : Cfg} {A B : Int → List Int} (h : Duo lo hi w b rb q A B) {g : Nat} (hg : g < lo ∨ hi ≤ g) (k : Int) (k0 : 0 ≤ k) (k1 : k ≤ 1099511627777) (s : Int) (hl : 0 < (A 5).length) (hx : (A 5).getD 0 0 = s) (he : (s == k) = false) (M : Mem w g 138 #[.int .i64 1, .int .i64 k]) : Calls Try.prog 58 #[.pointer (some ⟨g, 0, none⟩), .pointer (some ⟨b, 0, none⟩)] w fun e w' => e = .returned (accV 1 5 0 s s true) ∧ Duo lo hi w' b rb q A B ∧ Mem w' g 138 #[.int .i64 1, .int .i64 k] ∧ Fr (PG lo hi g) w w' := by
  have hw2 : IntKind.u64.wrap k = k := IntWalk.u64_in _ (by omega)
  have htop := h.top
  have R0 := Lib.hid (Mem.new w 52 #[.int .i64 0, .int .i64 0, .int .i64 0, .int .u64 0, .int .u64 0, .bool false])
  have G0 := Lib.hid (M.alloc (.cells #[.int .i64 0, .int .i64 0, .int .i64 0, .int .u64 0, .int .u64 0, .bool false] 52))
  have D0 := Lib.hid (h.alloc (.cells #[.int .i64 0, .int .i64 0, .int .i64 0, .int .u64 0, .int .u64 0, .bool false] 52))
  have F0 := Lib.hid ((Fr.refl (PG lo hi g) w).alloc (.cells #[.int .i64 0, .int .i64 0, .int .i64 0, .int .u64 0, .int .u64 0, .bool false] 52))
  have hgw := M.lt
  have hrw := R0.out.lt
  clear h M
  go_enter Try.func58, Try.ntmps58
  go_upto_region 1 with (fail)
  obtain ⟨W0, hW⟩ : ∃ W', w.alloc (.cells #[.int .i64 0, .int .i64 0, .int .i64 0, .int .u64 0, .int .u64 0, .bool false] 52) = W' := ⟨_, rfl⟩
  rw [hW] at R0 G0 D0 F0
  first | rw [hW] | skip
  clear hW
  have g0_0 := Mem.cell G0.out 0
  have g0_1 := Mem.cell G0.out 1
  have g0_z := G0.out.frozen
  simp at g0_0 g0_1
  have hc := d_load D0.out 5 (by decide) 0 hl s hx
  go_upto_region 9 with ((go_at_call 76; refine hc.mono ?_; rintro e w0' ⟨rfl, hD, hS⟩))
  have R1 := Lib.hid ((Mem.of_eq R0.out (hS.block w.heap.size R0.out.lt (.inr htop))).alloc (.cells #[.int .i64 1, .int .i64 5, .int .i64 0, .int .u64 s, .int .u64 s, .bool true] 52))
  have G1 := Lib.hid ((Mem.of_eq G0.out (hS.block g G0.out.lt hg)).alloc (.cells #[.int .i64 1, .int .i64 5, .int .i64 0, .int .u64 s, .int .u64 s, .bool true] 52))
  have D1 := Lib.hid ((hD).alloc (.cells #[.int .i64 1, .int .i64 5, .int .i64 0, .int .u64 s, .int .u64 s, .bool true] 52))
  have F1 := Lib.hid ((F0.out.trans (Fr.of_stay hS fun x a c => .inl ⟨a, c⟩)).alloc (.cells #[.int .i64 1, .int .i64 5, .int .i64 0, .int .u64 s, .int .u64 s, .bool true] 52))
  have HA1 := Lib.hid (Mem.new w0' 52 #[.int .i64 1, .int .i64 5, .int .i64 0, .int .u64 s, .int .u64 s, .bool true])
  have hgat : hi ≤ w0'.heap.size := hD.top
  have hgag : g < w0'.heap.size := Nat.lt_of_lt_of_le G0.out.lt hS.size
  have hgaw : w.heap.size < w0'.heap.size := Nat.lt_of_lt_of_le R0.out.lt hS.size
  obtain ⟨ga, hga⟩ : ∃ ga, w0'.heap.size = ga := ⟨_, rfl⟩
  rw [hga] at HA1 hgat hgaw hgag
  first | rw [hga] | skip
  clear hc hD hS hga
  obtain ⟨W1, hW⟩ : ∃ W', w0'.alloc (.cells #[.int .i64 1, .int .i64 5, .int .i64 0, .int .u64 s, .int .u64 s, .bool true] 52) = W' := ⟨_, rfl⟩
  rw [hW] at R1 G1 D1 F1 HA1
  first | rw [hW] | skip
  clear hW
  clear g0_0 g0_1 g0_z R0 G0 D0 F0
  have g1_0 := Mem.cell G1.out 0
  have g1_1 := Mem.cell G1.out 1
  have g1_z := G1.out.frozen
  have a1_0 := Mem.cell HA1.out 0
  have a1_1 := Mem.cell HA1.out 1
  have a1_2 := Mem.cell HA1.out 2
  have a1_3 := Mem.cell HA1.out 3
  have a1_4 := Mem.cell HA1.out 4
  have a1_5 := Mem.cell HA1.out 5
  simp at g1_0 g1_1 a1_0 a1_1 a1_2 a1_3 a1_4 a1_5
  go_region
  have R2 := Lib.hid (R1.out.drewN 1)
  have G2 := Lib.hid (G1.out.drewN 1)
  have D2 := Lib.hid (D1.out.drewN 1)
  have F2 := Lib.hid (F1.out.drewN 1)
  have HA2 := Lib.hid (HA1.out.drewN 1)
  rw [show W1.drew = W1.drewN 1 from rfl]
  obtain ⟨W2, hW⟩ : ∃ W', W1.drewN 1 = W' := ⟨_, rfl⟩
  rw [hW] at R2 G2 D2 F2 HA2
  first | rw [hW] | skip
  clear hW
  clear g1_0 g1_1 a1_0 a1_1 a1_2 a1_3 a1_4 a1_5 g1_z R1 G1 D1 F1 HA1
  have g2_0 := Mem.cell G2.out 0
  have g2_1 := Mem.cell G2.out 1
  have g2_z := G2.out.frozen
  have a2_0 := Mem.cell HA2.out 0
  have a2_1 := Mem.cell HA2.out 1
  have a2_2 := Mem.cell HA2.out 2
  have a2_3 := Mem.cell HA2.out 3
  have a2_4 := Mem.cell HA2.out 4
  have a2_5 := Mem.cell HA2.out 5
  simp at g2_0 g2_1 a2_0 a2_1 a2_2 a2_3 a2_4 a2_5
  have r0_0 := Mem.cell R2.out 0
  have r0_1 := Mem.cell R2.out 1
  have r0_2 := Mem.cell R2.out 2
  have r0_3 := Mem.cell R2.out 3
  have r0_4 := Mem.cell R2.out 4
  have r0_5 := Mem.cell R2.out 5
  have r0_z := R2.out.frozen
  go_wp2
  obtain ⟨M5, S5⟩ := store6 R2.out (.int .i64 1) (.int .i64 5) (.int .i64 0) (.int .u64 s) (.int .u64 s) (.bool true)
  have D5 := D2.out.fr (P := fun x => x = w.heap.size) (Fr.of_stay S5 fun x a c => by omega) fun x a c => by omega
  have G5 := mem_fr (P := fun x => x = w.heap.size) G2.out (Fr.of_stay S5 fun x a c => by omega) (by omega)
  have F5 := Fr.then (Q := fun x => x = w.heap.size) F2.out (Fr.of_stay S5 fun x a c => by omega) fun x a c => by omega
  obtain ⟨V, hV⟩ : ∃ V, ((((((W2.setCell ⟨w.heap.size, 0, none⟩ (.int .i64 1)).setCell ⟨w.heap.size, 1, none⟩ (.int .i64 5)).setCell ⟨w.heap.size, 2, none⟩ (.int .i64 0)).setCell ⟨w.heap.size, 3, none⟩ (.int .u64 s)).setCell ⟨w.heap.size, 4, none⟩ (.int .u64 s)).setCell ⟨w.heap.size, 5, none⟩ (.bool true)) = V := ⟨_, rfl⟩
  rw [hV] at M5 D5 F5 G5 ⊢
  refine bodyPost_ret (v := .agg #[.int .i64 1, .int .i64 5, .int .i64 0, .int .u64 s, .int .u64 s, .bool true]) (results_cell_row rfl _ _ w.heap.size 52 #[.int .i64 1, .int .i64 5, .int .i64 0, .int .u64 s, .int .u64 s, .bool true] (0, 0) _ (by simp) M5 Try.underlying52 rfl (by kernel_rfl)) rfl ⟨rfl, D5, G5, F5⟩

theorem t_step2 {lo hi b rb : Nat} {w : World} {q : Cfg} {A B : Int → List Int} (h : Duo lo hi w b rb q A B) {g : Nat} (hg : g < lo ∨ hi ≤ g) (k : Int) (M : Mem w g 138 #[.int .i64 2, .int .i64 k]) : Calls Try.prog 58 #[.pointer (some ⟨g, 0, none⟩), .pointer (some ⟨b, 0, none⟩)] w fun e w' => e = .returned (accV 0 0 0 0 0 false) ∧ Duo lo hi w' b rb q A B ∧ Mem w' g 138 #[.int .i64 2, .int .i64 k] ∧ Fr (PG lo hi g) w w' := by
  have htop := h.top
  have R0 := Lib.hid (Mem.new w 52 #[.int .i64 0, .int .i64 0, .int .i64 0, .int .u64 0, .int .u64 0, .bool false])
  have G0 := Lib.hid (M.alloc (.cells #[.int .i64 0, .int .i64 0, .int .i64 0, .int .u64 0, .int .u64 0, .bool false] 52))
  have D0 := Lib.hid (h.alloc (.cells #[.int .i64 0, .int .i64 0, .int .i64 0, .int .u64 0, .int .u64 0, .bool false] 52))
  have F0 := Lib.hid ((Fr.refl (PG lo hi g) w).alloc (.cells #[.int .i64 0, .int .i64 0, .int .i64 0, .int .u64 0, .int .u64 0, .bool false] 52))
  have hgw := M.lt
  have hrw := R0.out.lt
  clear h M
  go_enter Try.func58, Try.ntmps58
  go_upto_region 1 with (fail)
  obtain ⟨W0, hW⟩ : ∃ W', w.alloc (.cells #[.int .i64 0, .int .i64 0, .int .i64 0, .int .u64 0, .int .u64 0, .bool false] 52) = W' := ⟨_, rfl⟩
  rw [hW] at R0 G0 D0 F0
  first | rw [hW] | skip
  clear hW
  have g0_0 := Mem.cell G0.out 0
  have g0_1 := Mem.cell G0.out 1
  have g0_z := G0.out.frozen
  simp at g0_0 g0_1
  have r0_0 := Mem.cell R0.out 0
  have r0_1 := Mem.cell R0.out 1
  have r0_2 := Mem.cell R0.out 2
  have r0_3 := Mem.cell R0.out 3
  have r0_4 := Mem.cell R0.out 4
  have r0_5 := Mem.cell R0.out 5
  have r0_z := R0.out.frozen
  go_wp2
  obtain ⟨M5, S5⟩ := store6 R0.out (.int .i64 0) (.int .i64 0) (.int .i64 0) (.int .u64 0) (.int .u64 0) (.bool false)
  have D5 := D0.out.fr (P := fun x => x = w.heap.size) (Fr.of_stay S5 fun x a c => by omega) fun x a c => by omega
  have G5 := mem_fr (P := fun x => x = w.heap.size) G0.out (Fr.of_stay S5 fun x a c => by omega) (by omega)
  have F5 := Fr.then (Q := fun x => x = w.heap.size) F0.out (Fr.of_stay S5 fun x a c => by omega) fun x a c => by omega
  obtain ⟨V, hV⟩ : ∃ V, ((((((W0.setCell ⟨w.heap.size, 0, none⟩ (.int .i64 0)).setCell ⟨w.heap.size, 1, none⟩ (.int .i64 0)).setCell ⟨w.heap.size, 2, none⟩ (.int .i64 0)).setCell ⟨w.heap.size, 3, none⟩ (.int .u64 0)).setCell ⟨w.heap.size, 4, none⟩ (.int .u64 0)).setCell ⟨w.heap.size, 5, none⟩ (.bool false)) = V := ⟨_, rfl⟩
  rw [hV] at M5 D5 F5 G5 ⊢
  refine bodyPost_ret (v := .agg #[.int .i64 0, .int .i64 0, .int .i64 0, .int .u64 0, .int .u64 0, .bool false]) (results_cell_row rfl _ _ w.heap.size 52 #[.int .i64 0, .int .i64 0, .int .i64 0, .int .u64 0, .int .u64 0, .bool false] (0, 0) _ (by simp) M5 Try.underlying52 rfl (by kernel_rfl)) rfl ⟨rfl, D5, G5, F5⟩

theorem t_pass {lo hi b rb : Nat} {w : World} {q : Cfg} {A B : Int → List Int} (h : Duo lo hi w b rb q A B) (k : Int) (k0 : 0 ≤ k) (k1 : k ≤ 1099511627776) (s : Int) (hl : 0 < (A 5).length) (hx : (A 5).getD 0 0 = s) : Calls Try.prog 56 #[.pointer (some ⟨b, 0, none⟩), .int .i64 k] w fun e w' => e = .returned (accV 2 5 0 s ((k + 1)) true) ∧ Duo lo hi w' b rb q (upd A 5 0 (k + 1)) B ∧ Stay lo hi w w' := by
  have hw1 : IntKind.u64.wrap (k + 1) = k + 1 := IntWalk.u64_in _ (by omega)
  have hw2 : IntKind.u64.wrap k = k := IntWalk.u64_in _ (by omega)
  have htop := h.top
  have R0 := Lib.hid (Mem.new w 52 #[.int .i64 0, .int .i64 0, .int .i64 0, .int .u64 0, .int .u64 0, .bool false])
  have D0 := Lib.hid (h.alloc (.cells #[.int .i64 0, .int .i64 0, .int .i64 0, .int .u64 0, .int .u64 0, .bool false] 52))
  have F0 := Lib.hid ((Fr.refl (PI lo hi) w).alloc (.cells #[.int .i64 0, .int .i64 0, .int .i64 0, .int .u64 0, .int .u64 0, .bool false] 52))
  have hrw := R0.out.lt
  clear h
  go_enter Try.func56, Try.ntmps56
  go_upto_region 1 with (fail)
  obtain ⟨W0, hW⟩ : ∃ W', w.alloc (.cells #[.int .i64 0, .int .i64 0, .int .i64 0, .int .u64 0, .int .u64 0, .bool false] 52) = W' := ⟨_, rfl⟩
  rw [hW] at R0 D0 F0
  first | rw [hW] | skip
  clear hW
  have hc := d_store D0.out 5 (by decide) 0 hl s hx (k + 1)
  go_upto_region 2 with ((go_at_call 78; refine hc.mono ?_; rintro e w0' ⟨rfl, hD, hS⟩))
  have R1 := Lib.hid ((Mem.of_eq R0.out (hS.block w.heap.size R0.out.lt (.inr htop))).alloc (.cells #[.int .i64 2, .int .i64 5, .int .i64 0, .int .u64 s, .int .u64 (k + 1), .bool true] 52))
  have D1 := Lib.hid ((hD).alloc (.cells #[.int .i64 2, .int .i64 5, .int .i64 0, .int .u64 s, .int .u64 (k + 1), .bool true] 52))
  have F1 := Lib.hid ((F0.out.trans (Fr.of_stay hS fun x a c => ⟨a, c⟩)).alloc (.cells #[.int .i64 2, .int .i64 5, .int .i64 0, .int .u64 s, .int .u64 (k + 1), .bool true] 52))
  have HA1 := Lib.hid (Mem.new w0' 52 #[.int .i64 2, .int .i64 5, .int .i64 0, .int .u64 s, .int .u64 (k + 1), .bool true])
  have hgat : hi ≤ w0'.heap.size := hD.top
  skip
  have hgaw : w.heap.size < w0'.heap.size := Nat.lt_of_lt_of_le R0.out.lt hS.size
  obtain ⟨ga, hga⟩ : ∃ ga, w0'.heap.size = ga := ⟨_, rfl⟩
  rw [hga] at HA1 hgat hgaw
  first | rw [hga] | skip
  clear hc hD hS hga
  obtain ⟨W1, hW⟩ : ∃ W', w0'.alloc (.cells #[.int .i64 2, .int .i64 5, .int .i64 0, .int .u64 s, .int .u64 (k + 1), .bool true] 52) = W' := ⟨_, rfl⟩
  rw [hW] at R1 D1 F1 HA1
  first | rw [hW] | skip
  clear hW
  clear R0 D0 F0
  have a1_0 := Mem.cell HA1.out 0
  have a1_1 := Mem.cell HA1.out 1
  have a1_2 := Mem.cell HA1.out 2
  have a1_3 := Mem.cell HA1.out 3
  have a1_4 := Mem.cell HA1.out 4
  have a1_5 := Mem.cell HA1.out 5
  simp at a1_0 a1_1 a1_2 a1_3 a1_4 a1_5
  have r0_0 := Mem.cell R1.out 0
  have r0_1 := Mem.cell R1.out 1
  have r0_2 := Mem.cell R1.out 2
  have r0_3 := Mem.cell R1.out 3
  have r0_4 := Mem.cell R1.out 4
  have r0_5 := Mem.cell R1.out 5
  have r0_z := R1.out.frozen
  go_wp2
  obtain ⟨M5, S5⟩ := store6 R1.out (.int .i64 2) (.int .i64 5) (.int .i64 0) (.int .u64 s) (.int .u64 (k + 1)) (.bool true)
  have D5 := D1.out.fr (P := fun x => x = w.heap.size) (Fr.of_stay S5 fun x a c => by omega) fun x a c => by omega
  have F5 := Fr.then (Q := fun x => x = w.heap.size) F1.out (Fr.of_stay S5 fun x a c => by omega) fun x a c => by omega
  obtain ⟨V, hV⟩ : ∃ V, ((((((W1.setCell ⟨w.heap.size, 0, none⟩ (.int .i64 2)).setCell ⟨w.heap.size, 1, none⟩ (.int .i64 5)).setCell ⟨w.heap.size, 2, none⟩ (.int .i64 0)).setCell ⟨w.heap.size, 3, none⟩ (.int .u64 s)).setCell ⟨w.heap.size, 4, none⟩ (.int .u64 (k + 1))).setCell ⟨w.heap.size, 5, none⟩ (.bool true)) = V := ⟨_, rfl⟩
  rw [hV] at M5 D5 F5 ⊢
  refine bodyPost_ret (v := .agg #[.int .i64 2, .int .i64 5, .int .i64 0, .int .u64 s, .int .u64 (k + 1), .bool true]) (results_cell_row rfl _ _ w.heap.size 52 #[.int .i64 2, .int .i64 5, .int .i64 0, .int .u64 s, .int .u64 (k + 1), .bool true] (0, 0) _ (by simp) M5 Try.underlying52 rfl (by kernel_rfl)) rfl ⟨rfl, D5, F5.stay⟩

theorem t_done (g : Nat) (st k : Int) (w : World) (M : Mem w g 138 #[.int .i64 st, .int .i64 k]) : Calls Try.prog 54 #[.pointer (some ⟨g, 0, none⟩)] w fun e w' => e = .returned (.bool (st == 2)) ∧ w = w' := by
  have c0 := M.cell 0
  simp at c0
  clear M
  go_enter Try.func54, Try.ntmps54
  go_wp2
  go_ret
  exact ⟨rfl, rfl⟩

theorem t_ticket (g : Nat) (st k : Int) (w : World) (M : Mem w g 138 #[.int .i64 st, .int .i64 k]) : Calls Try.prog 55 #[.pointer (some ⟨g, 0, none⟩)] w fun e w' => e = .returned (.int .i64 k) ∧ w = w' := by
  have c1 := M.cell 1
  simp at c1
  clear M
  go_enter Try.func55, Try.ntmps55
  go_wp2
  go_ret
  exact ⟨rfl, rfl⟩

theorem t_new (w : World) : Calls Try.prog 52 #[] w fun e w' => e = .returned (.pointer (some ⟨w.heap.size, 0, none⟩)) ∧ w' = w.alloc (.cells #[.int .i64 0, .int .i64 (-1)] 138) := by
  go_enter Try.func52, Try.ntmps52
  go_wp2
  go_ret
  exact ⟨rfl, rfl⟩

theorem s_step0 {lo hi b rb : Nat} {w : World} {q : Cfg} {A B : Int → List Int} (h : Duo lo hi w b rb q A B) {g : Nat} (hg : g < lo ∨ hi ≤ g) (t : Int) (hl : 0 < (B 4).length) (hx : (B 4).getD 0 0 = t) (h0 : 0 ≤ t) (h1 : t ≤ 1099511627776) (M : Mem w g 94 #[.int .i64 (-1), .bool false]) : Calls Try.prog 59 #[.pointer (some ⟨g, 0, none⟩), .pointer (some ⟨rb, 0, none⟩)] w fun e w' => e = .returned (accV 4 4 0 t ((t + 1)) true) ∧ Duo lo hi w' b rb q A (upd B 4 0 (t + 1)) ∧ Mem w' g 94 #[.int .i64 t, .bool false] ∧ Fr (PG lo hi g) w w' := by
  have hw1 : IntKind.u64.wrap (t + 1) = t + 1 := IntWalk.u64_in _ (by omega)
  have hw2 : IntKind.i64.wrap t = t := IntWalk.i64_in _ (by omega)
  have htop := h.top
  have R0 := Lib.hid (Mem.new w 52 #[.int .i64 0, .int .i64 0, .int .i64 0, .int .u64 0, .int .u64 0, .bool false])
  have G0 := Lib.hid (M.alloc (.cells #[.int .i64 0, .int .i64 0, .int .i64 0, .int .u64 0, .int .u64 0, .bool false] 52))
  have D0 := Lib.hid (h.alloc (.cells #[.int .i64 0, .int .i64 0, .int .i64 0, .int .u64 0, .int .u64 0, .bool false] 52))
  have F0 := Lib.hid ((Fr.refl (PG lo hi g) w).alloc (.cells #[.int .i64 0, .int .i64 0, .int .i64 0, .int .u64 0, .int .u64 0, .bool false] 52))
  have hgw := M.lt
  have hrw := R0.out.lt
  clear h M
  go_enter Try.func59, Try.ntmps59
  go_upto_region 1 with (fail)
  obtain ⟨W0, hW⟩ : ∃ W', w.alloc (.cells #[.int .i64 0, .int .i64 0, .int .i64 0, .int .u64 0, .int .u64 0, .bool false] 52) = W' := ⟨_, rfl⟩
  rw [hW] at R0 G0 D0 F0
  first | rw [hW] | skip
  clear hW
  have g0_0 := Mem.cell G0.out 0
  have g0_1 := Mem.cell G0.out 1
  have g0_z := G0.out.frozen
  simp at g0_0 g0_1
  have hc := s_add D0.out 4 (by decide) 0 hl t hx 1 (t + 1) hw1
  go_upto_region 5 with ((go_at_call 81; refine hc.mono ?_; rintro e w0' ⟨rfl, hD, hS⟩))
  have R1 := Lib.hid ((Mem.of_eq R0.out (hS.block w.heap.size R0.out.lt (.inr htop))).alloc (.cells #[.int .i64 4, .int .i64 4, .int .i64 0, .int .u64 t, .int .u64 (t + 1), .bool true] 52))
  have G1 := Lib.hid ((Mem.of_eq G0.out (hS.block g G0.out.lt hg)).alloc (.cells #[.int .i64 4, .int .i64 4, .int .i64 0, .int .u64 t, .int .u64 (t + 1), .bool true] 52))
  have D1 := Lib.hid ((hD).alloc (.cells #[.int .i64 4, .int .i64 4, .int .i64 0, .int .u64 t, .int .u64 (t + 1), .bool true] 52))
  have F1 := Lib.hid ((F0.out.trans (Fr.of_stay hS fun x a c => .inl ⟨a, c⟩)).alloc (.cells #[.int .i64 4, .int .i64 4, .int .i64 0, .int .u64 t, .int .u64 (t + 1), .bool true] 52))
  have HA1 := Lib.hid (Mem.new w0' 52 #[.int .i64 4, .int .i64 4, .int .i64 0, .int .u64 t, .int .u64 (t + 1), .bool true])
  have hgat : hi ≤ w0'.heap.size := hD.top
  have hgag : g < w0'.heap.size := Nat.lt_of_lt_of_le G0.out.lt hS.size
  have hgaw : w.heap.size < w0'.heap.size := Nat.lt_of_lt_of_le R0.out.lt hS.size
  obtain ⟨ga, hga⟩ : ∃ ga, w0'.heap.size = ga := ⟨_, rfl⟩
  rw [hga] at HA1 hgat hgaw hgag
  first | rw [hga] | skip
  clear hc hD hS hga
  obtain ⟨W1, hW⟩ : ∃ W', w0'.alloc (.cells #[.int .i64 4, .int .i64 4, .int .i64 0, .int .u64 t, .int .u64 (t + 1), .bool true] 52) = W' := ⟨_, rfl⟩
  rw [hW] at R1 G1 D1 F1 HA1
  first | rw [hW] | skip
  clear hW
  clear g0_0 g0_1 g0_z R0 G0 D0 F0
  have g1_0 := Mem.cell G1.out 0
  have g1_1 := Mem.cell G1.out 1
  have g1_z := G1.out.frozen
  have a1_0 := Mem.cell HA1.out 0
  have a1_1 := Mem.cell HA1.out 1
  have a1_2 := Mem.cell HA1.out 2
  have a1_3 := Mem.cell HA1.out 3
  have a1_4 := Mem.cell HA1.out 4
  have a1_5 := Mem.cell HA1.out 5
  simp at g1_0 g1_1 a1_0 a1_1 a1_2 a1_3 a1_4 a1_5
  go_upto_region 6 with (fail)
  have G2 : Hid (Mem (W1.setCell ⟨g, 0, none⟩ (.int .i64 t)) g 94 #[.int .i64 t, .bool false]) := Lib.hid (by have := G1.out.set_ 0 (.int .i64 t); simpa using this)
  have R2 := Lib.hid (R1.out.far (a := ⟨g, 0, none⟩) (by show w.heap.size ≠ g; omega) (.int .i64 t))
  have D2 := Lib.hid (D1.out.set_ ⟨g, 0, none⟩ hg (.int .i64 t))
  have F2 := Lib.hid (F1.out.set_ ⟨g, 0, none⟩ (.inl (.inr rfl)) (.int .i64 t))
  have HA2 := Lib.hid (HA1.out.far (a := ⟨g, 0, none⟩) (by show ga ≠ g; omega) (.int .i64 t))
  obtain ⟨W2, hW⟩ : ∃ W', W1.setCell ⟨g, 0, none⟩ (.int .i64 t) = W' := ⟨_, rfl⟩
  rw [hW] at R2 G2 D2 F2 HA2
  first | rw [hW] | skip
  clear hW
  clear g1_0 g1_1 a1_0 a1_1 a1_2 a1_3 a1_4 a1_5 g1_z R1 G1 D1 F1 HA1
  have g2_0 := Mem.cell G2.out 0
  have g2_1 := Mem.cell G2.out 1
  have g2_z := G2.out.frozen
  have a2_0 := Mem.cell HA2.out 0
  have a2_1 := Mem.cell HA2.out 1
  have a2_2 := Mem.cell HA2.out 2
  have a2_3 := Mem.cell HA2.out 3
  have a2_4 := Mem.cell HA2.out 4
  have a2_5 := Mem.cell HA2.out 5
  simp at g2_0 g2_1 a2_0 a2_1 a2_2 a2_3 a2_4 a2_5
  have r0_0 := Mem.cell R2.out 0
  have r0_1 := Mem.cell R2.out 1
  have r0_2 := Mem.cell R2.out 2
  have r0_3 := Mem.cell R2.out 3
  have r0_4 := Mem.cell R2.out 4
  have r0_5 := Mem.cell R2.out 5
  have r0_z := R2.out.frozen
  go_wp2
  obtain ⟨M5, S5⟩ := store6 R2.out (.int .i64 4) (.int .i64 4) (.int .i64 0) (.int .u64 t) (.int .u64 (t + 1)) (.bool true)
  have D5 := D2.out.fr (P := fun x => x = w.heap.size) (Fr.of_stay S5 fun x a c => by omega) fun x a c => by omega
  have G5 := mem_fr (P := fun x => x = w.heap.size) G2.out (Fr.of_stay S5 fun x a c => by omega) (by omega)
  have F5 := Fr.then (Q := fun x => x = w.heap.size) F2.out (Fr.of_stay S5 fun x a c => by omega) fun x a c => by omega
  obtain ⟨V, hV⟩ : ∃ V, ((((((W2.setCell ⟨w.heap.size, 0, none⟩ (.int .i64 4)).setCell ⟨w.heap.size, 1, none⟩ (.int .i64 4)).setCell ⟨w.heap.size, 2, none⟩ (.int .i64 0)).setCell ⟨w.heap.size, 3, none⟩ (.int .u64 t)).setCell ⟨w.heap.size, 4, none⟩ (.int .u64 (t + 1))).setCell ⟨w.heap.size, 5, none⟩ (.bool true)) = V := ⟨_, rfl⟩
  rw [hV] at M5 D5 F5 G5 ⊢
  refine bodyPost_ret (v := .agg #[.int .i64 4, .int .i64 4, .int .i64 0, .int .u64 t, .int .u64 (t + 1), .bool true]) (results_cell_row rfl _ _ w.heap.size 52 #[.int .i64 4, .int .i64 4, .int .i64 0, .int .u64 t, .int .u64 (t + 1), .bool true] (0, 0) _ (by simp) M5 Try.underlying52 rfl (by kernel_rfl)) rfl ⟨rfl, D5, G5, F5⟩

theorem s_step1 {lo hi b rb : Nat} {w : World} {q : Cfg} {A B : Int → List Int} (h : Duo lo hi w b rb q A B) {g : Nat} (hg : g < lo ∨ hi ≤ g) (k : Int) (k0 : 0 ≤ k) (k1 : k ≤ 1099511627777) (s : Int) (hl : 0 < (B 5).length) (hx : (B 5).getD 0 0 = s) (M : Mem w g 94 #[.int .i64 k, .bool false]) : Calls Try.prog 59 #[.pointer (some ⟨g, 0, none⟩), .pointer (some ⟨rb, 0, none⟩)] w fun e w' => e = .returned (accV 1 5 0 s s true) ∧ Duo lo hi w' b rb q A B ∧ Mem w' g 94 #[.int .i64 k, .bool (s == k)] ∧ Fr (PG lo hi g) w w' := by
  have hw2 : IntKind.u64.wrap k = k := IntWalk.u64_in _ (by omega)
  have hk0 : decide (k < 0) = false := decide_eq_false (by omega)
  have htop := h.top
  have R0 := Lib.hid (Mem.new w 52 #[.int .i64 0, .int .i64 0, .int .i64 0, .int .u64 0, .int .u64 0, .bool false])
  have G0 := Lib.hid (M.alloc (.cells #[.int .i64 0, .int .i64 0, .int .i64 0, .int .u64 0, .int .u64 0, .bool false] 52))
  have D0 := Lib.hid (h.alloc (.cells #[.int .i64 0, .int .i64 0, .int .i64 0, .int .u64 0, .int .u64 0, .bool false] 52))
  have F0 := Lib.hid ((Fr.refl (PG lo hi g) w).alloc (.cells #[.int .i64 0, .int .i64 0, .int .i64 0, .int .u64 0, .int .u64 0, .bool false] 52))
  have hgw := M.lt
  have hrw := R0.out.lt
  clear h M
  go_enter Try.func59, Try.ntmps59
  go_upto_region 1 with (fail)
  obtain ⟨W0, hW⟩ : ∃ W', w.alloc (.cells #[.int .i64 0, .int .i64 0, .int .i64 0, .int .u64 0, .int .u64 0, .bool false] 52) = W' := ⟨_, rfl⟩
  rw [hW] at R0 G0 D0 F0
  first | rw [hW] | skip
  clear hW
  have g0_0 := Mem.cell G0.out 0
  have g0_1 := Mem.cell G0.out 1
  have g0_z := G0.out.frozen
  simp at g0_0 g0_1
  have hc := s_load D0.out 5 (by decide) 0 hl s hx
  go_upto_region 8 with ((go_at_call 77; refine hc.mono ?_; rintro e w0' ⟨rfl, hD, hS⟩))
  have R1 := Lib.hid ((Mem.of_eq R0.out (hS.block w.heap.size R0.out.lt (.inr htop))).alloc (.cells #[.int .i64 1, .int .i64 5, .int .i64 0, .int .u64 s, .int .u64 s, .bool true] 52))
  have G1 := Lib.hid ((Mem.of_eq G0.out (hS.block g G0.out.lt hg)).alloc (.cells #[.int .i64 1, .int .i64 5, .int .i64 0, .int .u64 s, .int .u64 s, .bool true] 52))
  have D1 := Lib.hid ((hD).alloc (.cells #[.int .i64 1, .int .i64 5, .int .i64 0, .int .u64 s, .int .u64 s, .bool true] 52))
  have F1 := Lib.hid ((F0.out.trans (Fr.of_stay hS fun x a c => .inl ⟨a, c⟩)).alloc (.cells #[.int .i64 1, .int .i64 5, .int .i64 0, .int .u64 s, .int .u64 s, .bool true] 52))
  have HA1 := Lib.hid (Mem.new w0' 52 #[.int .i64 1, .int .i64 5, .int .i64 0, .int .u64 s, .int .u64 s, .bool true])
  have hgat : hi ≤ w0'.heap.size := hD.top
  have hgag : g < w0'.heap.size := Nat.lt_of_lt_of_le G0.out.lt hS.size
  have hgaw : w.heap.size < w0'.heap.size := Nat.lt_of_lt_of_le R0.out.lt hS.size
  obtain ⟨ga, hga⟩ : ∃ ga, w0'.heap.size = ga := ⟨_, rfl⟩
  rw [hga] at HA1 hgat hgaw hgag
  first | rw [hga] | skip
  clear hc hD hS hga
  obtain ⟨W1, hW⟩ : ∃ W', w0'.alloc (.cells #[.int .i64 1, .int .i64 5, .int .i64 0, .int .u64 s, .int .u64 s, .bool true] 52) = W' := ⟨_, rfl⟩
  rw [hW] at R1 G1 D1 F1 HA1
  first | rw [hW] | skip
  clear hW
  clear g0_0 g0_1 g0_z R0 G0 D0 F0
  have g1_0 := Mem.cell G1.out 0
  have g1_1 := Mem.cell G1.out 1
  have g1_z := G1.out.frozen
  have a1_0 := Mem.cell HA1.out 0
  have a1_1 := Mem.cell HA1.out 1
  have a1_2 := Mem.cell HA1.out 2
  have a1_3 := Mem.cell HA1.out 3
  have a1_4 := Mem.cell HA1.out 4
  have a1_5 := Mem.cell HA1.out 5
  simp at g1_0 g1_1 a1_0 a1_1 a1_2 a1_3 a1_4 a1_5
  go_region
  have G2 : Hid (Mem (W1.setCell ⟨g, 1, none⟩ (.bool (s == k))) g 94 #[.int .i64 k, .bool (s == k)]) := Lib.hid (by have := G1.out.set_ 1 (.bool (s == k)); simpa using this)
  have R2 := Lib.hid (R1.out.far (a := ⟨g, 1, none⟩) (by show w.heap.size ≠ g; omega) (.bool (s == k)))
  have D2 := Lib.hid (D1.out.set_ ⟨g, 1, none⟩ hg (.bool (s == k)))
  have F2 := Lib.hid (F1.out.set_ ⟨g, 1, none⟩ (.inl (.inr rfl)) (.bool (s == k)))
  have HA2 := Lib.hid (HA1.out.far (a := ⟨g, 1, none⟩) (by show ga ≠ g; omega) (.bool (s == k)))
  obtain ⟨W2, hW⟩ : ∃ W', W1.setCell ⟨g, 1, none⟩ (.bool (s == k)) = W' := ⟨_, rfl⟩
  rw [hW] at R2 G2 D2 F2 HA2
  first | rw [hW] | skip
  clear hW
  clear g1_0 g1_1 a1_0 a1_1 a1_2 a1_3 a1_4 a1_5 g1_z R1 G1 D1 F1 HA1
  have g2_0 := Mem.cell G2.out 0
  have g2_1 := Mem.cell G2.out 1
  have g2_z := G2.out.frozen
  have a2_0 := Mem.cell HA2.out 0
  have a2_1 := Mem.cell HA2.out 1
  have a2_2 := Mem.cell HA2.out 2
  have a2_3 := Mem.cell HA2.out 3
  have a2_4 := Mem.cell HA2.out 4
  have a2_5 := Mem.cell HA2.out 5
  simp at g2_0 g2_1 a2_0 a2_1 a2_2 a2_3 a2_4 a2_5
  have R3 := Lib.hid (R2.out.drewN 1)
  have G3 := Lib.hid (G2.out.drewN 1)
  have D3 := Lib.hid (D2.out.drewN 1)
  have F3 := Lib.hid (F2.out.drewN 1)
  have HA3 := Lib.hid (HA2.out.drewN 1)
  rw [show W2.drew = W2.drewN 1 from rfl]
  obtain ⟨W3, hW⟩ : ∃ W', W2.drewN 1 = W' := ⟨_, rfl⟩
  rw [hW] at R3 G3 D3 F3 HA3
  first | rw [hW] | skip
  clear hW
  clear g2_0 g2_1 a2_0 a2_1 a2_2 a2_3 a2_4 a2_5 g2_z R2 G2 D2 F2 HA2
  have g3_0 := Mem.cell G3.out 0
  have g3_1 := Mem.cell G3.out 1
  have g3_z := G3.out.frozen
  have a3_0 := Mem.cell HA3.out 0
  have a3_1 := Mem.cell HA3.out 1
  have a3_2 := Mem.cell HA3.out 2
  have a3_3 := Mem.cell HA3.out 3
  have a3_4 := Mem.cell HA3.out 4
  have a3_5 := Mem.cell HA3.out 5
  simp at g3_0 g3_1 a3_0 a3_1 a3_2 a3_3 a3_4 a3_5
  have r0_0 := Mem.cell R3.out 0
  have r0_1 := Mem.cell R3.out 1
  have r0_2 := Mem.cell R3.out 2
  have r0_3 := Mem.cell R3.out 3
  have r0_4 := Mem.cell R3.out 4
  have r0_5 := Mem.cell R3.out 5
  have r0_z := R3.out.frozen
  go_wp2
  obtain ⟨M5, S5⟩ := store6 R3.out (.int .i64 1) (.int .i64 5) (.int .i64 0) (.int .u64 s) (.int .u64 s) (.bool true)
  have D5 := D3.out.fr (P := fun x => x = w.heap.size) (Fr.of_stay S5 fun x a c => by omega) fun x a c => by omega
  have G5 := mem_fr (P := fun x => x = w.heap.size) G3.out (Fr.of_stay S5 fun x a c => by omega) (by omega)
  have F5 := Fr.then (Q := fun x => x = w.heap.size) F3.out (Fr.of_stay S5 fun x a c => by omega) fun x a c => by omega
  obtain ⟨V, hV⟩ : ∃ V, ((((((W3.setCell ⟨w.heap.size, 0, none⟩ (.int .i64 1)).setCell ⟨w.heap.size, 1, none⟩ (.int .i64 5)).setCell ⟨w.heap.size, 2, none⟩ (.int .i64 0)).setCell ⟨w.heap.size, 3, none⟩ (.int .u64 s)).setCell ⟨w.heap.size, 4, none⟩ (.int .u64 s)).setCell ⟨w.heap.size, 5, none⟩ (.bool true)) = V := ⟨_, rfl⟩
  rw [hV] at M5 D5 F5 G5 ⊢
  refine bodyPost_ret (v := .agg #[.int .i64 1, .int .i64 5, .int .i64 0, .int .u64 s, .int .u64 s, .bool true]) (results_cell_row rfl _ _ w.heap.size 52 #[.int .i64 1, .int .i64 5, .int .i64 0, .int .u64 s, .int .u64 s, .bool true] (0, 0) _ (by simp) M5 Try.underlying52 rfl (by kernel_rfl)) rfl ⟨rfl, D5, G5, F5⟩

theorem s_pass {lo hi b rb : Nat} {w : World} {q : Cfg} {A B : Int → List Int} (h : Duo lo hi w b rb q A B) (k : Int) (k0 : 0 ≤ k) (k1 : k ≤ 1099511627776) (s : Int) (hl : 0 < (B 5).length) (hx : (B 5).getD 0 0 = s) : Calls Try.prog 57 #[.pointer (some ⟨rb, 0, none⟩), .int .i64 k] w fun e w' => e = .returned (accV 2 5 0 s ((k + 1)) true) ∧ Duo lo hi w' b rb q A (upd B 5 0 (k + 1)) ∧ Stay lo hi w w' := by
  have hw1 : IntKind.u64.wrap (k + 1) = k + 1 := IntWalk.u64_in _ (by omega)
  have hw2 : IntKind.u64.wrap k = k := IntWalk.u64_in _ (by omega)
  have htop := h.top
  have R0 := Lib.hid (Mem.new w 52 #[.int .i64 0, .int .i64 0, .int .i64 0, .int .u64 0, .int .u64 0, .bool false])
  have D0 := Lib.hid (h.alloc (.cells #[.int .i64 0, .int .i64 0, .int .i64 0, .int .u64 0, .int .u64 0, .bool false] 52))
  have F0 := Lib.hid ((Fr.refl (PI lo hi) w).alloc (.cells #[.int .i64 0, .int .i64 0, .int .i64 0, .int .u64 0, .int .u64 0, .bool false] 52))
  have hrw := R0.out.lt
  clear h
  go_enter Try.func57, Try.ntmps57
  go_upto_region 1 with (fail)
  obtain ⟨W0, hW⟩ : ∃ W', w.alloc (.cells #[.int .i64 0, .int .i64 0, .int .i64 0, .int .u64 0, .int .u64 0, .bool false] 52) = W' := ⟨_, rfl⟩
  rw [hW] at R0 D0 F0
  first | rw [hW] | skip
  clear hW
  have hc := s_store D0.out 5 (by decide) 0 hl s hx (k + 1)
  go_wp2_with ((go_at_call 79; refine hc.mono ?_; rintro e w9 ⟨rfl, hD, hS⟩; have r0 := Mem.of_eq R0.out (hS.block w.heap.size R0.out.lt (.inr htop)); have r0_0 := Mem.cell r0 0; have r0_1 := Mem.cell r0 1; have r0_2 := Mem.cell r0 2; have r0_3 := Mem.cell r0 3; have r0_4 := Mem.cell r0 4; have r0_5 := Mem.cell r0 5; have r0_z := Mem.frozen r0))
  have R1 := Lib.hid (Mem.of_eq R0.out (hS.block w.heap.size R0.out.lt (.inr htop)))
  have D1 := Lib.hid (hD)
  have F1 := Lib.hid (F0.out.trans (Fr.of_stay hS fun x a c => ⟨a, c⟩))
  obtain ⟨M5, S5⟩ := store6 R1.out (.int .i64 2) (.int .i64 5) (.int .i64 0) (.int .u64 s) (.int .u64 (k + 1)) (.bool true)
  have D5 := D1.out.fr (P := fun x => x = w.heap.size) (Fr.of_stay S5 fun x a c => by omega) fun x a c => by omega
  have F5 := Fr.then (Q := fun x => x = w.heap.size) F1.out (Fr.of_stay S5 fun x a c => by omega) fun x a c => by omega
  obtain ⟨V, hV⟩ : ∃ V, ((((((w9.setCell ⟨w.heap.size, 0, none⟩ (.int .i64 2)).setCell ⟨w.heap.size, 1, none⟩ (.int .i64 5)).setCell ⟨w.heap.size, 2, none⟩ (.int .i64 0)).setCell ⟨w.heap.size, 3, none⟩ (.int .u64 s)).setCell ⟨w.heap.size, 4, none⟩ (.int .u64 (k + 1))).setCell ⟨w.heap.size, 5, none⟩ (.bool true)) = V := ⟨_, rfl⟩
  rw [hV] at M5 D5 F5 ⊢
  refine bodyPost_ret (v := .agg #[.int .i64 2, .int .i64 5, .int .i64 0, .int .u64 s, .int .u64 (k + 1), .bool true]) (results_cell_row rfl _ _ w.heap.size 52 #[.int .i64 2, .int .i64 5, .int .i64 0, .int .u64 s, .int .u64 (k + 1), .bool true] (0, 0) _ (by simp) M5 Try.underlying52 rfl (by kernel_rfl)) rfl ⟨rfl, D5, F5.stay⟩

theorem s_new (w : World) : Calls Try.prog 53 #[] w fun e w' => e = .returned (.pointer (some ⟨w.heap.size, 0, none⟩)) ∧ w' = w.alloc (.cells #[.int .i64 (-1), .bool false] 94) := by
  go_enter Try.func53, Try.ntmps53
  go_wp2
  go_ret
  exact ⟨rfl, rfl⟩

end Go.Proofs.Ytpdmmblcjidekaa.TurA
