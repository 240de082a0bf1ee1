/-
  Contracts of package reader, step by step, over the cells of both machines.
-/
import Derived.Test.YtcbhpoajpingcaaLabS
import Derived.Test.YtcbhpoajpingcaaWordE
import Derived.Deep.RegionLaw
import Derived.Deep.RegionHeld3
namespace Go.Proofs.Ytcbhpoajpingcaa.RdA
open Go.ChangeShapes Go.WideShapes Go.ChangeAt Go.RowKit
open PlainT BlkW LayS LayA CelS CelM CelP CelV CelN CelO CelF LabD LabR LabP LabS CelLo WordC
set_option linter.unusedVariables false
set_option maxHeartbeats 1000000
set_option maxRecDepth 100000

theorem same_of {n : Nat} {args : Array Value} {v : Value} (h : ∀ w, Calls Try.prog n args w fun e w' => e = .returned v ∧ w = w') (w : World) : Calls Try.prog n args w fun e w' => e = .returned v ∧ w' = w := (h w).mono fun _ _ k => ⟨k.1, k.2.symm⟩

theorem rd_load {lo hi b rb : Nat} {w : World} {q : Cfg} {A B : Int → List Int} (h : Duo lo hi w b rb q A B) (k : Int) (hk : 1 ≤ k ∧ k ≤ 8) (i : Nat) (hlt : i < (A k).length) (x : Int) (hx : (A k).getD i 0 = x) : Calls Try.prog 87 #[.pointer (some ⟨b, 0, none⟩), .int .i64 k, .int .i64 i] w fun e w' => e = .returned (accV 1 k i x x true) ∧ Duo lo hi w' b rb q A B ∧ Stay lo hi w w' := by
  have htop := h.top
  have R0 := Lib.hid (Mem.new w 60 #[.int .i64 0, .int .i64 0, .int .i64 0, .int .u64 0, .int .u64 0, .bool false])
  have D0 := Lib.hid (h.alloc (.cells #[.int .i64 0, .int .i64 0, .int .i64 0, .int .u64 0, .int .u64 0, .bool false] 60))
  have F0 := Lib.hid ((Fr.refl (PI lo hi) w).alloc (.cells #[.int .i64 0, .int .i64 0, .int .i64 0, .int .u64 0, .int .u64 0, .bool false] 60))
  have hrw := R0.out.lt
  clear h
  go_enter Try.func87, Try.ntmps87
  go_upto_region 1 with (fail)
  obtain ⟨W0, hW⟩ : ∃ W', w.alloc (.cells #[.int .i64 0, .int .i64 0, .int .i64 0, .int .u64 0, .int .u64 0, .bool false] 60) = W' := ⟨_, rfl⟩
  rw [hW] at R0 D0 F0
  first | rw [hW] | skip
  clear hW
  have hc := d_load D0.out k hk i hlt x hx
  go_upto_region 2 with ((go_at_call 68; refine hc.mono ?_; rintro e w0' ⟨rfl, hD, hS⟩))
  have R1 := Lib.hid ((Mem.of_eq R0.out (hS.block w.heap.size R0.out.lt (.inr htop))).alloc (.cells #[.int .i64 1, .int .i64 k, .int .i64 i, .int .u64 x, .int .u64 x, .bool true] 60))
  have D1 := Lib.hid ((hD).alloc (.cells #[.int .i64 1, .int .i64 k, .int .i64 i, .int .u64 x, .int .u64 x, .bool true] 60))
  have F1 := Lib.hid ((F0.out.trans (Fr.of_stay hS fun x a c => ⟨a, c⟩)).alloc (.cells #[.int .i64 1, .int .i64 k, .int .i64 i, .int .u64 x, .int .u64 x, .bool true] 60))
  have HA1 := Lib.hid (Mem.new w0' 60 #[.int .i64 1, .int .i64 k, .int .i64 i, .int .u64 x, .int .u64 x, .bool true])
  have hgat : hi ≤ w0'.heap.size := hD.top
  skip
  have hgaw : w.heap.size < w0'.heap.size := Nat.lt_of_lt_of_le R0.out.lt hS.size
  obtain ⟨ga, hga⟩ : ∃ ga, w0'.heap.size = ga := ⟨_, rfl⟩
  rw [hga] at HA1 hgat hgaw
  first | rw [hga] | skip
  clear hc hD hS hga
  obtain ⟨W1, hW⟩ : ∃ W', w0'.alloc (.cells #[.int .i64 1, .int .i64 k, .int .i64 i, .int .u64 x, .int .u64 x, .bool true] 60) = W' := ⟨_, rfl⟩
  rw [hW] at R1 D1 F1 HA1
  first | rw [hW] | skip
  clear hW
  clear R0 D0 F0
  have a1_0 := Mem.cell HA1.out 0
  have a1_1 := Mem.cell HA1.out 1
  have a1_2 := Mem.cell HA1.out 2
  have a1_3 := Mem.cell HA1.out 3
  have a1_4 := Mem.cell HA1.out 4
  have a1_5 := Mem.cell HA1.out 5
  simp at a1_0 a1_1 a1_2 a1_3 a1_4 a1_5
  have r0_0 := Mem.cell R1.out 0
  have r0_1 := Mem.cell R1.out 1
  have r0_2 := Mem.cell R1.out 2
  have r0_3 := Mem.cell R1.out 3
  have r0_4 := Mem.cell R1.out 4
  have r0_5 := Mem.cell R1.out 5
  have r0_z := R1.out.frozen
  go_wp2
  obtain ⟨M5, S5⟩ := store6 R1.out (.int .i64 1) (.int .i64 k) (.int .i64 i) (.int .u64 x) (.int .u64 x) (.bool true)
  have D5 := D1.out.fr (P := fun x => x = w.heap.size) (Fr.of_stay S5 fun x a c => by omega) fun x a c => by omega
  have F5 := Fr.then (Q := fun x => x = w.heap.size) F1.out (Fr.of_stay S5 fun x a c => by omega) fun x a c => by omega
  obtain ⟨V, hV⟩ : ∃ V, ((((((W1.setCell ⟨w.heap.size, 0, none⟩ (.int .i64 1)).setCell ⟨w.heap.size, 1, none⟩ (.int .i64 k)).setCell ⟨w.heap.size, 2, none⟩ (.int .i64 i)).setCell ⟨w.heap.size, 3, none⟩ (.int .u64 x)).setCell ⟨w.heap.size, 4, none⟩ (.int .u64 x)).setCell ⟨w.heap.size, 5, none⟩ (.bool true)) = V := ⟨_, rfl⟩
  rw [hV] at M5 D5 F5 ⊢
  refine bodyPost_ret (v := .agg #[.int .i64 1, .int .i64 k, .int .i64 i, .int .u64 x, .int .u64 x, .bool true]) (results_cell_row rfl _ _ w.heap.size 60 #[.int .i64 1, .int .i64 k, .int .i64 i, .int .u64 x, .int .u64 x, .bool true] (0, 0) _ (by simp) M5 Try.underlying60 rfl (by kernel_rfl)) rfl ⟨rfl, D5, F5.stay⟩

theorem rd_finish {w : World} {g : Nat} (st a o r bf vl : Int) (c d : Bool) (M : Mem w g 143 #[.int .i64 st, .int .i64 a, .int .i64 o, .int .i64 r, .int .u64 bf, .int .u64 vl, .bool c]) : Calls Try.prog 90 #[.pointer (some ⟨g, 0, none⟩), .bool d] w fun e w' => e = .returned (.tuple #[]) ∧ Mem w' g 143 #[.int .i64 3, .int .i64 a, .int .i64 o, .int .i64 r, .int .u64 bf, .int .u64 vl, .bool d] ∧ Fr (fun x => x = g) w w' := by
  have c0 := M.cell 0
  have c6 := M.cell 6
  have cz := M.frozen
  simp at c0 c6
  have HM := Lib.hid M
  clear M
  go_enter Try.func90, Try.ntmps90
  go_wp2
  go_end0
  refine ⟨rfl, ?_, ?_⟩
  · have := ((HM.out.set_ 0 (.int .i64 3)).set_ 6 (.bool d))
    simpa using this
  · exact (((Fr.refl (fun x => x = g) w).set_ ⟨g, 0, none⟩ (.inl rfl) _).set_ ⟨g, 6, none⟩ (.inl rfl) _)

theorem rd_s0_held {lo hi b rb : Nat} {w : World} {q : Cfg} {A B : Int → List Int} (h : Duo lo hi w b rb q A B) {g : Nat} (hg : g < lo ∨ hi ≤ g) (a r bf vl : Int) (c : Bool) (o : Nat) (hl : o < (A 2).length) (x : Int) (hx : (A 2).getD o 0 = x) (x0 : 0 ≤ x) (x1 : x ≤ 18446744073709551615) (t : Int) (ht : x % 64 - 1 = t) (hh : (t != -1) = true) (M : Mem w g 143 #[.int .i64 0, .int .i64 a, .int .i64 o, .int .i64 r, .int .u64 bf, .int .u64 vl, .bool c]) : Calls Try.prog 53 #[.pointer (some ⟨g, 0, none⟩), .pointer (some ⟨b, 0, none⟩)] w fun e w' => e = .returned (accV 1 2 o x x true) ∧ Duo lo hi w' b rb q A B ∧ Mem w' g 143 #[.int .i64 3, .int .i64 a, .int .i64 o, .int .i64 r, .int .u64 x, .int .u64 vl, .bool true] ∧ Fr (PG lo hi g) w w' := by
  have htop := h.top
  have R0 := Lib.hid (Mem.new w 60 #[.int .i64 0, .int .i64 0, .int .i64 0, .int .u64 0, .int .u64 0, .bool false])
  have G0 := Lib.hid (M.alloc (.cells #[.int .i64 0, .int .i64 0, .int .i64 0, .int .u64 0, .int .u64 0, .bool false] 60))
  have D0 := Lib.hid (h.alloc (.cells #[.int .i64 0, .int .i64 0, .int .i64 0, .int .u64 0, .int .u64 0, .bool false] 60))
  have F0 := Lib.hid ((Fr.refl (PG lo hi g) w).alloc (.cells #[.int .i64 0, .int .i64 0, .int .i64 0, .int .u64 0, .int .u64 0, .bool false] 60))
  have hgw := M.lt
  have hrw := R0.out.lt
  clear h M
  go_enter Try.func53, Try.ntmps53
  go_upto_region 1 with (fail)
  obtain ⟨W0, hW⟩ : ∃ W', w.alloc (.cells #[.int .i64 0, .int .i64 0, .int .i64 0, .int .u64 0, .int .u64 0, .bool false] 60) = W' := ⟨_, rfl⟩
  rw [hW] at R0 G0 D0 F0
  first | rw [hW] | skip
  clear hW
  have g0_0 := Mem.cell G0.out 0
  have g0_1 := Mem.cell G0.out 1
  have g0_2 := Mem.cell G0.out 2
  have g0_3 := Mem.cell G0.out 3
  have g0_4 := Mem.cell G0.out 4
  have g0_5 := Mem.cell G0.out 5
  have g0_6 := Mem.cell G0.out 6
  have g0_z := G0.out.frozen
  simp at g0_0 g0_1 g0_2 g0_3 g0_4 g0_5 g0_6
  have hho := same_of (w_holder x x0 x1)
  have hve := same_of (w_version x x0 x1)
  simp only [ht] at hho
  clear ht
  have hc := rd_load D0.out 2 (by decide) o hl x hx
  go_upto_region 4 with ((go_at_call 87; refine hc.mono ?_; rintro e w0' ⟨rfl, hD, hS⟩))
  have R1 := Lib.hid ((Mem.of_eq R0.out (hS.block w.heap.size R0.out.lt (.inr htop))).alloc (.cells #[.int .i64 1, .int .i64 2, .int .i64 o, .int .u64 x, .int .u64 x, .bool true] 60))
  have G1 := Lib.hid ((Mem.of_eq G0.out (hS.block g G0.out.lt hg)).alloc (.cells #[.int .i64 1, .int .i64 2, .int .i64 o, .int .u64 x, .int .u64 x, .bool true] 60))
  have D1 := Lib.hid ((hD).alloc (.cells #[.int .i64 1, .int .i64 2, .int .i64 o, .int .u64 x, .int .u64 x, .bool true] 60))
  have F1 := Lib.hid ((F0.out.trans (Fr.of_stay hS fun x a c => .inl ⟨a, c⟩)).alloc (.cells #[.int .i64 1, .int .i64 2, .int .i64 o, .int .u64 x, .int .u64 x, .bool true] 60))
  have HA1 := Lib.hid (Mem.new w0' 60 #[.int .i64 1, .int .i64 2, .int .i64 o, .int .u64 x, .int .u64 x, .bool true])
  have hgat : hi ≤ w0'.heap.size := hD.top
  have hgag : g < w0'.heap.size := Nat.lt_of_lt_of_le G0.out.lt hS.size
  have hgaw : w.heap.size < w0'.heap.size := Nat.lt_of_lt_of_le R0.out.lt hS.size
  obtain ⟨ga, hga⟩ : ∃ ga, w0'.heap.size = ga := ⟨_, rfl⟩
  rw [hga] at HA1 hgat hgaw hgag
  first | rw [hga] | skip
  clear hc hD hS hga
  obtain ⟨W1, hW⟩ : ∃ W', w0'.alloc (.cells #[.int .i64 1, .int .i64 2, .int .i64 o, .int .u64 x, .int .u64 x, .bool true] 60) = W' := ⟨_, rfl⟩
  rw [hW] at R1 G1 D1 F1 HA1
  first | rw [hW] | skip
  clear hW
  clear g0_0 g0_1 g0_2 g0_3 g0_4 g0_5 g0_6 g0_z R0 G0 D0 F0
  have g1_0 := Mem.cell G1.out 0
  have g1_1 := Mem.cell G1.out 1
  have g1_2 := Mem.cell G1.out 2
  have g1_3 := Mem.cell G1.out 3
  have g1_4 := Mem.cell G1.out 4
  have g1_5 := Mem.cell G1.out 5
  have g1_6 := Mem.cell G1.out 6
  have g1_z := G1.out.frozen
  have a1_0 := Mem.cell HA1.out 0
  have a1_1 := Mem.cell HA1.out 1
  have a1_2 := Mem.cell HA1.out 2
  have a1_3 := Mem.cell HA1.out 3
  have a1_4 := Mem.cell HA1.out 4
  have a1_5 := Mem.cell HA1.out 5
  simp at g1_0 g1_1 g1_2 g1_3 g1_4 g1_5 g1_6 a1_0 a1_1 a1_2 a1_3 a1_4 a1_5
  go_upto_region 5 with (fail)
  have G2 : Hid (Mem (W1.setCell ⟨g, 4, none⟩ (.int .u64 x)) g 143 #[.int .i64 0, .int .i64 a, .int .i64 o, .int .i64 r, .int .u64 x, .int .u64 vl, .bool c]) := Lib.hid (by have := G1.out.set_ 4 (.int .u64 x); simpa using this)
  have R2 := Lib.hid (R1.out.far (a := ⟨g, 4, none⟩) (by show w.heap.size ≠ g; omega) (.int .u64 x))
  have D2 := Lib.hid (D1.out.set_ ⟨g, 4, none⟩ hg (.int .u64 x))
  have F2 := Lib.hid (F1.out.set_ ⟨g, 4, none⟩ (.inl (.inr rfl)) (.int .u64 x))
  have HA2 := Lib.hid (HA1.out.far (a := ⟨g, 4, none⟩) (by show ga ≠ g; omega) (.int .u64 x))
  obtain ⟨W2, hW⟩ : ∃ W', W1.setCell ⟨g, 4, none⟩ (.int .u64 x) = W' := ⟨_, rfl⟩
  rw [hW] at R2 G2 D2 F2 HA2
  first | rw [hW] | skip
  clear hW
  clear g1_0 g1_1 g1_2 g1_3 g1_4 g1_5 g1_6 a1_0 a1_1 a1_2 a1_3 a1_4 a1_5 g1_z R1 G1 D1 F1 HA1
  have g2_0 := Mem.cell G2.out 0
  have g2_1 := Mem.cell G2.out 1
  have g2_2 := Mem.cell G2.out 2
  have g2_3 := Mem.cell G2.out 3
  have g2_4 := Mem.cell G2.out 4
  have g2_5 := Mem.cell G2.out 5
  have g2_6 := Mem.cell G2.out 6
  have g2_z := G2.out.frozen
  have a2_0 := Mem.cell HA2.out 0
  have a2_1 := Mem.cell HA2.out 1
  have a2_2 := Mem.cell HA2.out 2
  have a2_3 := Mem.cell HA2.out 3
  have a2_4 := Mem.cell HA2.out 4
  have a2_5 := Mem.cell HA2.out 5
  simp at g2_0 g2_1 g2_2 g2_3 g2_4 g2_5 g2_6 a2_0 a2_1 a2_2 a2_3 a2_4 a2_5
  go_upto_region 6 with (fail)
  have G3 : Hid (Mem (W2.setCell ⟨g, 0, none⟩ (.int .i64 1)) g 143 #[.int .i64 1, .int .i64 a, .int .i64 o, .int .i64 r, .int .u64 x, .int .u64 vl, .bool c]) := Lib.hid (by have := G2.out.set_ 0 (.int .i64 1); simpa using this)
  have R3 := Lib.hid (R2.out.far (a := ⟨g, 0, none⟩) (by show w.heap.size ≠ g; omega) (.int .i64 1))
  have D3 := Lib.hid (D2.out.set_ ⟨g, 0, none⟩ hg (.int .i64 1))
  have F3 := Lib.hid (F2.out.set_ ⟨g, 0, none⟩ (.inl (.inr rfl)) (.int .i64 1))
  have HA3 := Lib.hid (HA2.out.far (a := ⟨g, 0, none⟩) (by show ga ≠ g; omega) (.int .i64 1))
  obtain ⟨W3, hW⟩ : ∃ W', W2.setCell ⟨g, 0, none⟩ (.int .i64 1) = W' := ⟨_, rfl⟩
  rw [hW] at R3 G3 D3 F3 HA3
  first | rw [hW] | skip
  clear hW
  clear g2_0 g2_1 g2_2 g2_3 g2_4 g2_5 g2_6 a2_0 a2_1 a2_2 a2_3 a2_4 a2_5 g2_z R2 G2 D2 F2 HA2
  have g3_0 := Mem.cell G3.out 0
  have g3_1 := Mem.cell G3.out 1
  have g3_2 := Mem.cell G3.out 2
  have g3_3 := Mem.cell G3.out 3
  have g3_4 := Mem.cell G3.out 4
  have g3_5 := Mem.cell G3.out 5
  have g3_6 := Mem.cell G3.out 6
  have g3_z := G3.out.frozen
  have a3_0 := Mem.cell HA3.out 0
  have a3_1 := Mem.cell HA3.out 1
  have a3_2 := Mem.cell HA3.out 2
  have a3_3 := Mem.cell HA3.out 3
  have a3_4 := Mem.cell HA3.out 4
  have a3_5 := Mem.cell HA3.out 5
  simp at g3_0 g3_1 g3_2 g3_3 g3_4 g3_5 g3_6 a3_0 a3_1 a3_2 a3_3 a3_4 a3_5
  go_quiet ((go_at_call 88; exact Calls.quiet_of_same (hho _)))
  have R4 := Lib.hid (R3.out.drewN nq)
  have G4 := Lib.hid (G3.out.drewN nq)
  have D4 := Lib.hid (D3.out.drewN nq)
  have F4 := Lib.hid (F3.out.drewN nq)
  have HA4 := Lib.hid (HA3.out.drewN nq)
  obtain ⟨W4, hW⟩ : ∃ W', W3.drewN nq = W' := ⟨_, rfl⟩
  rw [hW] at R4 G4 D4 F4 HA4
  first | rw [hW] | skip
  clear hW
  clear nq
  clear g3_0 g3_1 g3_2 g3_3 g3_4 g3_5 g3_6 a3_0 a3_1 a3_2 a3_3 a3_4 a3_5 g3_z R3 G3 D3 F3 HA3
  have g4_0 := Mem.cell G4.out 0
  have g4_1 := Mem.cell G4.out 1
  have g4_2 := Mem.cell G4.out 2
  have g4_3 := Mem.cell G4.out 3
  have g4_4 := Mem.cell G4.out 4
  have g4_5 := Mem.cell G4.out 5
  have g4_6 := Mem.cell G4.out 6
  have g4_z := G4.out.frozen
  have a4_0 := Mem.cell HA4.out 0
  have a4_1 := Mem.cell HA4.out 1
  have a4_2 := Mem.cell HA4.out 2
  have a4_3 := Mem.cell HA4.out 3
  have a4_4 := Mem.cell HA4.out 4
  have a4_5 := Mem.cell HA4.out 5
  simp at g4_0 g4_1 g4_2 g4_3 g4_4 g4_5 g4_6 a4_0 a4_1 a4_2 a4_3 a4_4 a4_5
  go_upto_region 7 with (fail)
  have hc := rd_finish 1 a o r x vl c true G4.out
  go_upto_region 8 with ((go_at_call 90; refine hc.mono ?_; rintro e w4' ⟨rfl, hM, hF⟩))
  have G5 : Hid (Mem w4' g 143 #[.int .i64 3, .int .i64 a, .int .i64 o, .int .i64 r, .int .u64 x, .int .u64 vl, .bool true]) := Lib.hid hM
  have R5 := Lib.hid (mem_fr R4.out hF (by omega))
  have D5 := Lib.hid (D4.out.fr hF (fun x a c => by omega))
  have F5 := Lib.hid (F4.out.then hF (fun x a c => .inr c))
  have HA5 := Lib.hid (mem_fr HA4.out hF (by omega))
  clear hc hM hF g4_0 g4_1 g4_2 g4_3 g4_4 g4_5 g4_6 a4_0 a4_1 a4_2 a4_3 a4_4 a4_5 g4_z R4 G4 D4 F4 HA4
  have g5_0 := Mem.cell G5.out 0
  have g5_1 := Mem.cell G5.out 1
  have g5_2 := Mem.cell G5.out 2
  have g5_3 := Mem.cell G5.out 3
  have g5_4 := Mem.cell G5.out 4
  have g5_5 := Mem.cell G5.out 5
  have g5_6 := Mem.cell G5.out 6
  have g5_z := G5.out.frozen
  have a5_0 := Mem.cell HA5.out 0
  have a5_1 := Mem.cell HA5.out 1
  have a5_2 := Mem.cell HA5.out 2
  have a5_3 := Mem.cell HA5.out 3
  have a5_4 := Mem.cell HA5.out 4
  have a5_5 := Mem.cell HA5.out 5
  simp at g5_0 g5_1 g5_2 g5_3 g5_4 g5_5 g5_6 a5_0 a5_1 a5_2 a5_3 a5_4 a5_5
  have r0_0 := Mem.cell R5.out 0
  have r0_1 := Mem.cell R5.out 1
  have r0_2 := Mem.cell R5.out 2
  have r0_3 := Mem.cell R5.out 3
  have r0_4 := Mem.cell R5.out 4
  have r0_5 := Mem.cell R5.out 5
  have r0_z := R5.out.frozen
  go_wp2
  obtain ⟨M5, S5⟩ := store6 R5.out (.int .i64 1) (.int .i64 2) (.int .i64 o) (.int .u64 x) (.int .u64 x) (.bool true)
  have D5 := D5.out.fr (P := fun x => x = w.heap.size) (Fr.of_stay S5 fun x a c => by omega) fun x a c => by omega
  have G5 := mem_fr (P := fun x => x = w.heap.size) G5.out (Fr.of_stay S5 fun x a c => by omega) (by omega)
  have F5 := Fr.then (Q := fun x => x = w.heap.size) F5.out (Fr.of_stay S5 fun x a c => by omega) fun x a c => by omega
  obtain ⟨V, hV⟩ : ∃ V, ((((((w4'.setCell ⟨w.heap.size, 0, none⟩ (.int .i64 1)).setCell ⟨w.heap.size, 1, none⟩ (.int .i64 2)).setCell ⟨w.heap.size, 2, none⟩ (.int .i64 o)).setCell ⟨w.heap.size, 3, none⟩ (.int .u64 x)).setCell ⟨w.heap.size, 4, none⟩ (.int .u64 x)).setCell ⟨w.heap.size, 5, none⟩ (.bool true)) = V := ⟨_, rfl⟩
  rw [hV] at M5 D5 F5 G5 ⊢
  refine bodyPost_ret (v := .agg #[.int .i64 1, .int .i64 2, .int .i64 o, .int .u64 x, .int .u64 x, .bool true]) (results_cell_row rfl _ _ w.heap.size 60 #[.int .i64 1, .int .i64 2, .int .i64 o, .int .u64 x, .int .u64 x, .bool true] (0, 0) _ (by simp) M5 Try.underlying60 rfl (by kernel_rfl)) rfl ⟨rfl, D5, G5, F5⟩

theorem rd_s0_new {lo hi b rb : Nat} {w : World} {q : Cfg} {A B : Int → List Int} (h : Duo lo hi w b rb q A B) {g : Nat} (hg : g < lo ∨ hi ≤ g) (a r bf vl : Int) (c : Bool) (o : Nat) (hl : o < (A 2).length) (x : Int) (hx : (A 2).getD o 0 = x) (x0 : 0 ≤ x) (x1 : x ≤ 18446744073709551615) (t : Int) (ht : x % 64 - 1 = t) (hh : (t != -1) = false) (hv : r < x / 64) (M : Mem w g 143 #[.int .i64 0, .int .i64 a, .int .i64 o, .int .i64 r, .int .u64 bf, .int .u64 vl, .bool c]) : Calls Try.prog 53 #[.pointer (some ⟨g, 0, none⟩), .pointer (some ⟨b, 0, none⟩)] w fun e w' => e = .returned (accV 1 2 o x x true) ∧ Duo lo hi w' b rb q A B ∧ Mem w' g 143 #[.int .i64 3, .int .i64 a, .int .i64 o, .int .i64 r, .int .u64 x, .int .u64 vl, .bool true] ∧ Fr (PG lo hi g) w w' := by
  have htop := h.top
  have R0 := Lib.hid (Mem.new w 60 #[.int .i64 0, .int .i64 0, .int .i64 0, .int .u64 0, .int .u64 0, .bool false])
  have G0 := Lib.hid (M.alloc (.cells #[.int .i64 0, .int .i64 0, .int .i64 0, .int .u64 0, .int .u64 0, .bool false] 60))
  have D0 := Lib.hid (h.alloc (.cells #[.int .i64 0, .int .i64 0, .int .i64 0, .int .u64 0, .int .u64 0, .bool false] 60))
  have F0 := Lib.hid ((Fr.refl (PG lo hi g) w).alloc (.cells #[.int .i64 0, .int .i64 0, .int .i64 0, .int .u64 0, .int .u64 0, .bool false] 60))
  have hgw := M.lt
  have hrw := R0.out.lt
  clear h M
  go_enter Try.func53, Try.ntmps53
  go_upto_region 1 with (fail)
  obtain ⟨W0, hW⟩ : ∃ W', w.alloc (.cells #[.int .i64 0, .int .i64 0, .int .i64 0, .int .u64 0, .int .u64 0, .bool false] 60) = W' := ⟨_, rfl⟩
  rw [hW] at R0 G0 D0 F0
  first | rw [hW] | skip
  clear hW
  have g0_0 := Mem.cell G0.out 0
  have g0_1 := Mem.cell G0.out 1
  have g0_2 := Mem.cell G0.out 2
  have g0_3 := Mem.cell G0.out 3
  have g0_4 := Mem.cell G0.out 4
  have g0_5 := Mem.cell G0.out 5
  have g0_6 := Mem.cell G0.out 6
  have g0_z := G0.out.frozen
  simp at g0_0 g0_1 g0_2 g0_3 g0_4 g0_5 g0_6
  have hho := same_of (w_holder x x0 x1)
  have hve := same_of (w_version x x0 x1)
  simp only [ht] at hho
  clear ht
  have hc := rd_load D0.out 2 (by decide) o hl x hx
  go_upto_region 4 with ((go_at_call 87; refine hc.mono ?_; rintro e w0' ⟨rfl, hD, hS⟩))
  have R1 := Lib.hid ((Mem.of_eq R0.out (hS.block w.heap.size R0.out.lt (.inr htop))).alloc (.cells #[.int .i64 1, .int .i64 2, .int .i64 o, .int .u64 x, .int .u64 x, .bool true] 60))
  have G1 := Lib.hid ((Mem.of_eq G0.out (hS.block g G0.out.lt hg)).alloc (.cells #[.int .i64 1, .int .i64 2, .int .i64 o, .int .u64 x, .int .u64 x, .bool true] 60))
  have D1 := Lib.hid ((hD).alloc (.cells #[.int .i64 1, .int .i64 2, .int .i64 o, .int .u64 x, .int .u64 x, .bool true] 60))
  have F1 := Lib.hid ((F0.out.trans (Fr.of_stay hS fun x a c => .inl ⟨a, c⟩)).alloc (.cells #[.int .i64 1, .int .i64 2, .int .i64 o, .int .u64 x, .int .u64 x, .bool true] 60))
  have HA1 := Lib.hid (Mem.new w0' 60 #[.int .i64 1, .int .i64 2, .int .i64 o, .int .u64 x, .int .u64 x, .bool true])
  have hgat : hi ≤ w0'.heap.size := hD.top
  have hgag : g < w0'.heap.size := Nat.lt_of_lt_of_le G0.out.lt hS.size
  have hgaw : w.heap.size < w0'.heap.size := Nat.lt_of_lt_of_le R0.out.lt hS.size
  obtain ⟨ga, hga⟩ : ∃ ga, w0'.heap.size = ga := ⟨_, rfl⟩
  rw [hga] at HA1 hgat hgaw hgag
  first | rw [hga] | skip
  clear hc hD hS hga
  obtain ⟨W1, hW⟩ : ∃ W', w0'.alloc (.cells #[.int .i64 1, .int .i64 2, .int .i64 o, .int .u64 x, .int .u64 x, .bool true] 60) = W' := ⟨_, rfl⟩
  rw [hW] at R1 G1 D1 F1 HA1
  first | rw [hW] | skip
  clear hW
  clear g0_0 g0_1 g0_2 g0_3 g0_4 g0_5 g0_6 g0_z R0 G0 D0 F0
  have g1_0 := Mem.cell G1.out 0
  have g1_1 := Mem.cell G1.out 1
  have g1_2 := Mem.cell G1.out 2
  have g1_3 := Mem.cell G1.out 3
  have g1_4 := Mem.cell G1.out 4
  have g1_5 := Mem.cell G1.out 5
  have g1_6 := Mem.cell G1.out 6
  have g1_z := G1.out.frozen
  have a1_0 := Mem.cell HA1.out 0
  have a1_1 := Mem.cell HA1.out 1
  have a1_2 := Mem.cell HA1.out 2
  have a1_3 := Mem.cell HA1.out 3
  have a1_4 := Mem.cell HA1.out 4
  have a1_5 := Mem.cell HA1.out 5
  simp at g1_0 g1_1 g1_2 g1_3 g1_4 g1_5 g1_6 a1_0 a1_1 a1_2 a1_3 a1_4 a1_5
  go_upto_region 5 with (fail)
  have G2 : Hid (Mem (W1.setCell ⟨g, 4, none⟩ (.int .u64 x)) g 143 #[.int .i64 0, .int .i64 a, .int .i64 o, .int .i64 r, .int .u64 x, .int .u64 vl, .bool c]) := Lib.hid (by have := G1.out.set_ 4 (.int .u64 x); simpa using this)
  have R2 := Lib.hid (R1.out.far (a := ⟨g, 4, none⟩) (by show w.heap.size ≠ g; omega) (.int .u64 x))
  have D2 := Lib.hid (D1.out.set_ ⟨g, 4, none⟩ hg (.int .u64 x))
  have F2 := Lib.hid (F1.out.set_ ⟨g, 4, none⟩ (.inl (.inr rfl)) (.int .u64 x))
  have HA2 := Lib.hid (HA1.out.far (a := ⟨g, 4, none⟩) (by show ga ≠ g; omega) (.int .u64 x))
  obtain ⟨W2, hW⟩ : ∃ W', W1.setCell ⟨g, 4, none⟩ (.int .u64 x) = W' := ⟨_, rfl⟩
  rw [hW] at R2 G2 D2 F2 HA2
  first | rw [hW] | skip
  clear hW
  clear g1_0 g1_1 g1_2 g1_3 g1_4 g1_5 g1_6 a1_0 a1_1 a1_2 a1_3 a1_4 a1_5 g1_z R1 G1 D1 F1 HA1
  have g2_0 := Mem.cell G2.out 0
  have g2_1 := Mem.cell G2.out 1
  have g2_2 := Mem.cell G2.out 2
  have g2_3 := Mem.cell G2.out 3
  have g2_4 := Mem.cell G2.out 4
  have g2_5 := Mem.cell G2.out 5
  have g2_6 := Mem.cell G2.out 6
  have g2_z := G2.out.frozen
  have a2_0 := Mem.cell HA2.out 0
  have a2_1 := Mem.cell HA2.out 1
  have a2_2 := Mem.cell HA2.out 2
  have a2_3 := Mem.cell HA2.out 3
  have a2_4 := Mem.cell HA2.out 4
  have a2_5 := Mem.cell HA2.out 5
  simp at g2_0 g2_1 g2_2 g2_3 g2_4 g2_5 g2_6 a2_0 a2_1 a2_2 a2_3 a2_4 a2_5
  go_upto_region 6 with (fail)
  have G3 : Hid (Mem (W2.setCell ⟨g, 0, none⟩ (.int .i64 1)) g 143 #[.int .i64 1, .int .i64 a, .int .i64 o, .int .i64 r, .int .u64 x, .int .u64 vl, .bool c]) := Lib.hid (by have := G2.out.set_ 0 (.int .i64 1); simpa using this)
  have R3 := Lib.hid (R2.out.far (a := ⟨g, 0, none⟩) (by show w.heap.size ≠ g; omega) (.int .i64 1))
  have D3 := Lib.hid (D2.out.set_ ⟨g, 0, none⟩ hg (.int .i64 1))
  have F3 := Lib.hid (F2.out.set_ ⟨g, 0, none⟩ (.inl (.inr rfl)) (.int .i64 1))
  have HA3 := Lib.hid (HA2.out.far (a := ⟨g, 0, none⟩) (by show ga ≠ g; omega) (.int .i64 1))
  obtain ⟨W3, hW⟩ : ∃ W', W2.setCell ⟨g, 0, none⟩ (.int .i64 1) = W' := ⟨_, rfl⟩
  rw [hW] at R3 G3 D3 F3 HA3
  first | rw [hW] | skip
  clear hW
  clear g2_0 g2_1 g2_2 g2_3 g2_4 g2_5 g2_6 a2_0 a2_1 a2_2 a2_3 a2_4 a2_5 g2_z R2 G2 D2 F2 HA2
  have g3_0 := Mem.cell G3.out 0
  have g3_1 := Mem.cell G3.out 1
  have g3_2 := Mem.cell G3.out 2
  have g3_3 := Mem.cell G3.out 3
  have g3_4 := Mem.cell G3.out 4
  have g3_5 := Mem.cell G3.out 5
  have g3_6 := Mem.cell G3.out 6
  have g3_z := G3.out.frozen
  have a3_0 := Mem.cell HA3.out 0
  have a3_1 := Mem.cell HA3.out 1
  have a3_2 := Mem.cell HA3.out 2
  have a3_3 := Mem.cell HA3.out 3
  have a3_4 := Mem.cell HA3.out 4
  have a3_5 := Mem.cell HA3.out 5
  simp at g3_0 g3_1 g3_2 g3_3 g3_4 g3_5 g3_6 a3_0 a3_1 a3_2 a3_3 a3_4 a3_5
  go_quiet (first | (go_at_call 88; exact Calls.quiet_of_same (hho _)) | (go_at_call 89; exact Calls.quiet_of_same (hve _)))
  have R4 := Lib.hid (R3.out.drewN nq)
  have G4 := Lib.hid (G3.out.drewN nq)
  have D4 := Lib.hid (D3.out.drewN nq)
  have F4 := Lib.hid (F3.out.drewN nq)
  have HA4 := Lib.hid (HA3.out.drewN nq)
  obtain ⟨W4, hW⟩ : ∃ W', W3.drewN nq = W' := ⟨_, rfl⟩
  rw [hW] at R4 G4 D4 F4 HA4
  first | rw [hW] | skip
  clear hW
  clear nq
  clear g3_0 g3_1 g3_2 g3_3 g3_4 g3_5 g3_6 a3_0 a3_1 a3_2 a3_3 a3_4 a3_5 g3_z R3 G3 D3 F3 HA3
  have g4_0 := Mem.cell G4.out 0
  have g4_1 := Mem.cell G4.out 1
  have g4_2 := Mem.cell G4.out 2
  have g4_3 := Mem.cell G4.out 3
  have g4_4 := Mem.cell G4.out 4
  have g4_5 := Mem.cell G4.out 5
  have g4_6 := Mem.cell G4.out 6
  have g4_z := G4.out.frozen
  have a4_0 := Mem.cell HA4.out 0
  have a4_1 := Mem.cell HA4.out 1
  have a4_2 := Mem.cell HA4.out 2
  have a4_3 := Mem.cell HA4.out 3
  have a4_4 := Mem.cell HA4.out 4
  have a4_5 := Mem.cell HA4.out 5
  simp at g4_0 g4_1 g4_2 g4_3 g4_4 g4_5 g4_6 a4_0 a4_1 a4_2 a4_3 a4_4 a4_5
  go_upto_region 7 with (fail)
  have hc := rd_finish 1 a o r x vl c true G4.out
  go_upto_region 8 with ((go_at_call 90; refine hc.mono ?_; rintro e w4' ⟨rfl, hM, hF⟩))
  have G5 : Hid (Mem w4' g 143 #[.int .i64 3, .int .i64 a, .int .i64 o, .int .i64 r, .int .u64 x, .int .u64 vl, .bool true]) := Lib.hid hM
  have R5 := Lib.hid (mem_fr R4.out hF (by omega))
  have D5 := Lib.hid (D4.out.fr hF (fun x a c => by omega))
  have F5 := Lib.hid (F4.out.then hF (fun x a c => .inr c))
  have HA5 := Lib.hid (mem_fr HA4.out hF (by omega))
  clear hc hM hF g4_0 g4_1 g4_2 g4_3 g4_4 g4_5 g4_6 a4_0 a4_1 a4_2 a4_3 a4_4 a4_5 g4_z R4 G4 D4 F4 HA4
  have g5_0 := Mem.cell G5.out 0
  have g5_1 := Mem.cell G5.out 1
  have g5_2 := Mem.cell G5.out 2
  have g5_3 := Mem.cell G5.out 3
  have g5_4 := Mem.cell G5.out 4
  have g5_5 := Mem.cell G5.out 5
  have g5_6 := Mem.cell G5.out 6
  have g5_z := G5.out.frozen
  have a5_0 := Mem.cell HA5.out 0
  have a5_1 := Mem.cell HA5.out 1
  have a5_2 := Mem.cell HA5.out 2
  have a5_3 := Mem.cell HA5.out 3
  have a5_4 := Mem.cell HA5.out 4
  have a5_5 := Mem.cell HA5.out 5
  simp at g5_0 g5_1 g5_2 g5_3 g5_4 g5_5 g5_6 a5_0 a5_1 a5_2 a5_3 a5_4 a5_5
  have r0_0 := Mem.cell R5.out 0
  have r0_1 := Mem.cell R5.out 1
  have r0_2 := Mem.cell R5.out 2
  have r0_3 := Mem.cell R5.out 3
  have r0_4 := Mem.cell R5.out 4
  have r0_5 := Mem.cell R5.out 5
  have r0_z := R5.out.frozen
  go_wp2
  obtain ⟨M5, S5⟩ := store6 R5.out (.int .i64 1) (.int .i64 2) (.int .i64 o) (.int .u64 x) (.int .u64 x) (.bool true)
  have D5 := D5.out.fr (P := fun x => x = w.heap.size) (Fr.of_stay S5 fun x a c => by omega) fun x a c => by omega
  have G5 := mem_fr (P := fun x => x = w.heap.size) G5.out (Fr.of_stay S5 fun x a c => by omega) (by omega)
  have F5 := Fr.then (Q := fun x => x = w.heap.size) F5.out (Fr.of_stay S5 fun x a c => by omega) fun x a c => by omega
  obtain ⟨V, hV⟩ : ∃ V, ((((((w4'.setCell ⟨w.heap.size, 0, none⟩ (.int .i64 1)).setCell ⟨w.heap.size, 1, none⟩ (.int .i64 2)).setCell ⟨w.heap.size, 2, none⟩ (.int .i64 o)).setCell ⟨w.heap.size, 3, none⟩ (.int .u64 x)).setCell ⟨w.heap.size, 4, none⟩ (.int .u64 x)).setCell ⟨w.heap.size, 5, none⟩ (.bool true)) = V := ⟨_, rfl⟩
  rw [hV] at M5 D5 F5 G5 ⊢
  refine bodyPost_ret (v := .agg #[.int .i64 1, .int .i64 2, .int .i64 o, .int .u64 x, .int .u64 x, .bool true]) (results_cell_row rfl _ _ w.heap.size 60 #[.int .i64 1, .int .i64 2, .int .i64 o, .int .u64 x, .int .u64 x, .bool true] (0, 0) _ (by simp) M5 Try.underlying60 rfl (by kernel_rfl)) rfl ⟨rfl, D5, G5, F5⟩

theorem rd_s0_go {lo hi b rb : Nat} {w : World} {q : Cfg} {A B : Int → List Int} (h : Duo lo hi w b rb q A B) {g : Nat} (hg : g < lo ∨ hi ≤ g) (a r bf vl : Int) (c : Bool) (o : Nat) (hl : o < (A 2).length) (x : Int) (hx : (A 2).getD o 0 = x) (x0 : 0 ≤ x) (x1 : x ≤ 18446744073709551615) (t : Int) (ht : x % 64 - 1 = t) (hh : (t != -1) = false) (hv : x / 64 ≤ r) (M : Mem w g 143 #[.int .i64 0, .int .i64 a, .int .i64 o, .int .i64 r, .int .u64 bf, .int .u64 vl, .bool c]) : Calls Try.prog 53 #[.pointer (some ⟨g, 0, none⟩), .pointer (some ⟨b, 0, none⟩)] w fun e w' => e = .returned (accV 1 2 o x x true) ∧ Duo lo hi w' b rb q A B ∧ Mem w' g 143 #[.int .i64 1, .int .i64 a, .int .i64 o, .int .i64 r, .int .u64 x, .int .u64 vl, .bool c] ∧ Fr (PG lo hi g) w w' := by
  have htop := h.top
  have R0 := Lib.hid (Mem.new w 60 #[.int .i64 0, .int .i64 0, .int .i64 0, .int .u64 0, .int .u64 0, .bool false])
  have G0 := Lib.hid (M.alloc (.cells #[.int .i64 0, .int .i64 0, .int .i64 0, .int .u64 0, .int .u64 0, .bool false] 60))
  have D0 := Lib.hid (h.alloc (.cells #[.int .i64 0, .int .i64 0, .int .i64 0, .int .u64 0, .int .u64 0, .bool false] 60))
  have F0 := Lib.hid ((Fr.refl (PG lo hi g) w).alloc (.cells #[.int .i64 0, .int .i64 0, .int .i64 0, .int .u64 0, .int .u64 0, .bool false] 60))
  have hgw := M.lt
  have hrw := R0.out.lt
  clear h M
  go_enter Try.func53, Try.ntmps53
  go_upto_region 1 with (fail)
  obtain ⟨W0, hW⟩ : ∃ W', w.alloc (.cells #[.int .i64 0, .int .i64 0, .int .i64 0, .int .u64 0, .int .u64 0, .bool false] 60) = W' := ⟨_, rfl⟩
  rw [hW] at R0 G0 D0 F0
  first | rw [hW] | skip
  clear hW
  have g0_0 := Mem.cell G0.out 0
  have g0_1 := Mem.cell G0.out 1
  have g0_2 := Mem.cell G0.out 2
  have g0_3 := Mem.cell G0.out 3
  have g0_4 := Mem.cell G0.out 4
  have g0_5 := Mem.cell G0.out 5
  have g0_6 := Mem.cell G0.out 6
  have g0_z := G0.out.frozen
  simp at g0_0 g0_1 g0_2 g0_3 g0_4 g0_5 g0_6
  have hho := same_of (w_holder x x0 x1)
  have hve := same_of (w_version x x0 x1)
  simp only [ht] at hho
  clear ht
  have hc := rd_load D0.out 2 (by decide) o hl x hx
  go_upto_region 4 with ((go_at_call 87; refine hc.mono ?_; rintro e w0' ⟨rfl, hD, hS⟩))
  have R1 := Lib.hid ((Mem.of_eq R0.out (hS.block w.heap.size R0.out.lt (.inr htop))).alloc (.cells #[.int .i64 1, .int .i64 2, .int .i64 o, .int .u64 x, .int .u64 x, .bool true] 60))
  have G1 := Lib.hid ((Mem.of_eq G0.out (hS.block g G0.out.lt hg)).alloc (.cells #[.int .i64 1, .int .i64 2, .int .i64 o, .int .u64 x, .int .u64 x, .bool true] 60))
  have D1 := Lib.hid ((hD).alloc (.cells #[.int .i64 1, .int .i64 2, .int .i64 o, .int .u64 x, .int .u64 x, .bool true] 60))
  have F1 := Lib.hid ((F0.out.trans (Fr.of_stay hS fun x a c => .inl ⟨a, c⟩)).alloc (.cells #[.int .i64 1, .int .i64 2, .int .i64 o, .int .u64 x, .int .u64 x, .bool true] 60))
  have HA1 := Lib.hid (Mem.new w0' 60 #[.int .i64 1, .int .i64 2, .int .i64 o, .int .u64 x, .int .u64 x, .bool true])
  have hgat : hi ≤ w0'.heap.size := hD.top
  have hgag : g < w0'.heap.size := Nat.lt_of_lt_of_le G0.out.lt hS.size
  have hgaw : w.heap.size < w0'.heap.size := Nat.lt_of_lt_of_le R0.out.lt hS.size
  obtain ⟨ga, hga⟩ : ∃ ga, w0'.heap.size = ga := ⟨_, rfl⟩
  rw [hga] at HA1 hgat hgaw hgag
  first | rw [hga] | skip
  clear hc hD hS hga
  obtain ⟨W1, hW⟩ : ∃ W', w0'.alloc (.cells #[.int .i64 1, .int .i64 2, .int .i64 o, .int .u64 x, .int .u64 x, .bool true] 60) = W' := ⟨_, rfl⟩
  rw [hW] at R1 G1 D1 F1 HA1
  first | rw [hW] | skip
  clear hW
  clear g0_0 g0_1 g0_2 g0_3 g0_4 g0_5 g0_6 g0_z R0 G0 D0 F0
  have g1_0 := Mem.cell G1.out 0
  have g1_1 := Mem.cell G1.out 1
  have g1_2 := Mem.cell G1.out 2
  have g1_3 := Mem.cell G1.out 3
  have g1_4 := Mem.cell G1.out 4
  have g1_5 := Mem.cell G1.out 5
  have g1_6 := Mem.cell G1.out 6
  have g1_z := G1.out.frozen
  have a1_0 := Mem.cell HA1.out 0
  have a1_1 := Mem.cell HA1.out 1
  have a1_2 := Mem.cell HA1.out 2
  have a1_3 := Mem.cell HA1.out 3
  have a1_4 := Mem.cell HA1.out 4
  have a1_5 := Mem.cell HA1.out 5
  simp at g1_0 g1_1 g1_2 g1_3 g1_4 g1_5 g1_6 a1_0 a1_1 a1_2 a1_3 a1_4 a1_5
  go_upto_region 5 with (fail)
  have G2 : Hid (Mem (W1.setCell ⟨g, 4, none⟩ (.int .u64 x)) g 143 #[.int .i64 0, .int .i64 a, .int .i64 o, .int .i64 r, .int .u64 x, .int .u64 vl, .bool c]) := Lib.hid (by have := G1.out.set_ 4 (.int .u64 x); simpa using this)
  have R2 := Lib.hid (R1.out.far (a := ⟨g, 4, none⟩) (by show w.heap.size ≠ g; omega) (.int .u64 x))
  have D2 := Lib.hid (D1.out.set_ ⟨g, 4, none⟩ hg (.int .u64 x))
  have F2 := Lib.hid (F1.out.set_ ⟨g, 4, none⟩ (.inl (.inr rfl)) (.int .u64 x))
  have HA2 := Lib.hid (HA1.out.far (a := ⟨g, 4, none⟩) (by show ga ≠ g; omega) (.int .u64 x))
  obtain ⟨W2, hW⟩ : ∃ W', W1.setCell ⟨g, 4, none⟩ (.int .u64 x) = W' := ⟨_, rfl⟩
  rw [hW] at R2 G2 D2 F2 HA2
  first | rw [hW] | skip
  clear hW
  clear g1_0 g1_1 g1_2 g1_3 g1_4 g1_5 g1_6 a1_0 a1_1 a1_2 a1_3 a1_4 a1_5 g1_z R1 G1 D1 F1 HA1
  have g2_0 := Mem.cell G2.out 0
  have g2_1 := Mem.cell G2.out 1
  have g2_2 := Mem.cell G2.out 2
  have g2_3 := Mem.cell G2.out 3
  have g2_4 := Mem.cell G2.out 4
  have g2_5 := Mem.cell G2.out 5
  have g2_6 := Mem.cell G2.out 6
  have g2_z := G2.out.frozen
  have a2_0 := Mem.cell HA2.out 0
  have a2_1 := Mem.cell HA2.out 1
  have a2_2 := Mem.cell HA2.out 2
  have a2_3 := Mem.cell HA2.out 3
  have a2_4 := Mem.cell HA2.out 4
  have a2_5 := Mem.cell HA2.out 5
  simp at g2_0 g2_1 g2_2 g2_3 g2_4 g2_5 g2_6 a2_0 a2_1 a2_2 a2_3 a2_4 a2_5
  go_upto_region 6 with (fail)
  have G3 : Hid (Mem (W2.setCell ⟨g, 0, none⟩ (.int .i64 1)) g 143 #[.int .i64 1, .int .i64 a, .int .i64 o, .int .i64 r, .int .u64 x, .int .u64 vl, .bool c]) := Lib.hid (by have := G2.out.set_ 0 (.int .i64 1); simpa using this)
  have R3 := Lib.hid (R2.out.far (a := ⟨g, 0, none⟩) (by show w.heap.size ≠ g; omega) (.int .i64 1))
  have D3 := Lib.hid (D2.out.set_ ⟨g, 0, none⟩ hg (.int .i64 1))
  have F3 := Lib.hid (F2.out.set_ ⟨g, 0, none⟩ (.inl (.inr rfl)) (.int .i64 1))
  have HA3 := Lib.hid (HA2.out.far (a := ⟨g, 0, none⟩) (by show ga ≠ g; omega) (.int .i64 1))
  obtain ⟨W3, hW⟩ : ∃ W', W2.setCell ⟨g, 0, none⟩ (.int .i64 1) = W' := ⟨_, rfl⟩
  rw [hW] at R3 G3 D3 F3 HA3
  first | rw [hW] | skip
  clear hW
  clear g2_0 g2_1 g2_2 g2_3 g2_4 g2_5 g2_6 a2_0 a2_1 a2_2 a2_3 a2_4 a2_5 g2_z R2 G2 D2 F2 HA2
  have g3_0 := Mem.cell G3.out 0
  have g3_1 := Mem.cell G3.out 1
  have g3_2 := Mem.cell G3.out 2
  have g3_3 := Mem.cell G3.out 3
  have g3_4 := Mem.cell G3.out 4
  have g3_5 := Mem.cell G3.out 5
  have g3_6 := Mem.cell G3.out 6
  have g3_z := G3.out.frozen
  have a3_0 := Mem.cell HA3.out 0
  have a3_1 := Mem.cell HA3.out 1
  have a3_2 := Mem.cell HA3.out 2
  have a3_3 := Mem.cell HA3.out 3
  have a3_4 := Mem.cell HA3.out 4
  have a3_5 := Mem.cell HA3.out 5
  simp at g3_0 g3_1 g3_2 g3_3 g3_4 g3_5 g3_6 a3_0 a3_1 a3_2 a3_3 a3_4 a3_5
  go_quiet (first | (go_at_call 88; exact Calls.quiet_of_same (hho _)) | (go_at_call 89; exact Calls.quiet_of_same (hve _)))
  have R4 := Lib.hid (R3.out.drewN nq)
  have G4 := Lib.hid (G3.out.drewN nq)
  have D4 := Lib.hid (D3.out.drewN nq)
  have F4 := Lib.hid (F3.out.drewN nq)
  have HA4 := Lib.hid (HA3.out.drewN nq)
  obtain ⟨W4, hW⟩ : ∃ W', W3.drewN nq = W' := ⟨_, rfl⟩
  rw [hW] at R4 G4 D4 F4 HA4
  first | rw [hW] | skip
  clear hW
  clear nq
  clear g3_0 g3_1 g3_2 g3_3 g3_4 g3_5 g3_6 a3_0 a3_1 a3_2 a3_3 a3_4 a3_5 g3_z R3 G3 D3 F3 HA3
  have g4_0 := Mem.cell G4.out 0
  have g4_1 := Mem.cell G4.out 1
  have g4_2 := Mem.cell G4.out 2
  have g4_3 := Mem.cell G4.out 3
  have g4_4 := Mem.cell G4.out 4
  have g4_5 := Mem.cell G4.out 5
  have g4_6 := Mem.cell G4.out 6
  have g4_z := G4.out.frozen
  have a4_0 := Mem.cell HA4.out 0
  have a4_1 := Mem.cell HA4.out 1
  have a4_2 := Mem.cell HA4.out 2
  have a4_3 := Mem.cell HA4.out 3
  have a4_4 := Mem.cell HA4.out 4
  have a4_5 := Mem.cell HA4.out 5
  simp at g4_0 g4_1 g4_2 g4_3 g4_4 g4_5 g4_6 a4_0 a4_1 a4_2 a4_3 a4_4 a4_5
  have r0_0 := Mem.cell R4.out 0
  have r0_1 := Mem.cell R4.out 1
  have r0_2 := Mem.cell R4.out 2
  have r0_3 := Mem.cell R4.out 3
  have r0_4 := Mem.cell R4.out 4
  have r0_5 := Mem.cell R4.out 5
  have r0_z := R4.out.frozen
  go_wp2
  obtain ⟨M5, S5⟩ := store6 R4.out (.int .i64 1) (.int .i64 2) (.int .i64 o) (.int .u64 x) (.int .u64 x) (.bool true)
  have D5 := D4.out.fr (P := fun x => x = w.heap.size) (Fr.of_stay S5 fun x a c => by omega) fun x a c => by omega
  have G5 := mem_fr (P := fun x => x = w.heap.size) G4.out (Fr.of_stay S5 fun x a c => by omega) (by omega)
  have F5 := Fr.then (Q := fun x => x = w.heap.size) F4.out (Fr.of_stay S5 fun x a c => by omega) fun x a c => by omega
  obtain ⟨V, hV⟩ : ∃ V, ((((((W4.setCell ⟨w.heap.size, 0, none⟩ (.int .i64 1)).setCell ⟨w.heap.size, 1, none⟩ (.int .i64 2)).setCell ⟨w.heap.size, 2, none⟩ (.int .i64 o)).setCell ⟨w.heap.size, 3, none⟩ (.int .u64 x)).setCell ⟨w.heap.size, 4, none⟩ (.int .u64 x)).setCell ⟨w.heap.size, 5, none⟩ (.bool true)) = V := ⟨_, rfl⟩
  rw [hV] at M5 D5 F5 G5 ⊢
  refine bodyPost_ret (v := .agg #[.int .i64 1, .int .i64 2, .int .i64 o, .int .u64 x, .int .u64 x, .bool true]) (results_cell_row rfl _ _ w.heap.size 60 #[.int .i64 1, .int .i64 2, .int .i64 o, .int .u64 x, .int .u64 x, .bool true] (0, 0) _ (by simp) M5 Try.underlying60 rfl (by kernel_rfl)) rfl ⟨rfl, D5, G5, F5⟩

theorem rd_s1 {lo hi b rb : Nat} {w : World} {q : Cfg} {A B : Int → List Int} (h : Duo lo hi w b rb q A B) {g : Nat} (hg : g < lo ∨ hi ≤ g) (o r bf vl : Int) (c : Bool) (a : Nat) (hl : a < (A 1).length) (y : Int) (hy : (A 1).getD a 0 = y) (M : Mem w g 143 #[.int .i64 1, .int .i64 a, .int .i64 o, .int .i64 r, .int .u64 bf, .int .u64 vl, .bool c]) : Calls Try.prog 53 #[.pointer (some ⟨g, 0, none⟩), .pointer (some ⟨b, 0, none⟩)] w fun e w' => e = .returned (accV 1 1 a y y true) ∧ Duo lo hi w' b rb q A B ∧ Mem w' g 143 #[.int .i64 2, .int .i64 a, .int .i64 o, .int .i64 r, .int .u64 bf, .int .u64 y, .bool c] ∧ Fr (PG lo hi g) w w' := by
  have htop := h.top
  have R0 := Lib.hid (Mem.new w 60 #[.int .i64 0, .int .i64 0, .int .i64 0, .int .u64 0, .int .u64 0, .bool false])
  have G0 := Lib.hid (M.alloc (.cells #[.int .i64 0, .int .i64 0, .int .i64 0, .int .u64 0, .int .u64 0, .bool false] 60))
  have D0 := Lib.hid (h.alloc (.cells #[.int .i64 0, .int .i64 0, .int .i64 0, .int .u64 0, .int .u64 0, .bool false] 60))
  have F0 := Lib.hid ((Fr.refl (PG lo hi g) w).alloc (.cells #[.int .i64 0, .int .i64 0, .int .i64 0, .int .u64 0, .int .u64 0, .bool false] 60))
  have hgw := M.lt
  have hrw := R0.out.lt
  clear h M
  go_enter Try.func53, Try.ntmps53
  go_upto_region 1 with (fail)
  obtain ⟨W0, hW⟩ : ∃ W', w.alloc (.cells #[.int .i64 0, .int .i64 0, .int .i64 0, .int .u64 0, .int .u64 0, .bool false] 60) = W' := ⟨_, rfl⟩
  rw [hW] at R0 G0 D0 F0
  first | rw [hW] | skip
  clear hW
  have g0_0 := Mem.cell G0.out 0
  have g0_1 := Mem.cell G0.out 1
  have g0_2 := Mem.cell G0.out 2
  have g0_3 := Mem.cell G0.out 3
  have g0_4 := Mem.cell G0.out 4
  have g0_5 := Mem.cell G0.out 5
  have g0_6 := Mem.cell G0.out 6
  have g0_z := G0.out.frozen
  simp at g0_0 g0_1 g0_2 g0_3 g0_4 g0_5 g0_6
  have hc := rd_load D0.out 1 (by decide) a hl y hy
  go_upto_region 11 with ((go_at_call 87; refine hc.mono ?_; rintro e w0' ⟨rfl, hD, hS⟩))
  have R1 := Lib.hid ((Mem.of_eq R0.out (hS.block w.heap.size R0.out.lt (.inr htop))).alloc (.cells #[.int .i64 1, .int .i64 1, .int .i64 a, .int .u64 y, .int .u64 y, .bool true] 60))
  have G1 := Lib.hid ((Mem.of_eq G0.out (hS.block g G0.out.lt hg)).alloc (.cells #[.int .i64 1, .int .i64 1, .int .i64 a, .int .u64 y, .int .u64 y, .bool true] 60))
  have D1 := Lib.hid ((hD).alloc (.cells #[.int .i64 1, .int .i64 1, .int .i64 a, .int .u64 y, .int .u64 y, .bool true] 60))
  have F1 := Lib.hid ((F0.out.trans (Fr.of_stay hS fun x a c => .inl ⟨a, c⟩)).alloc (.cells #[.int .i64 1, .int .i64 1, .int .i64 a, .int .u64 y, .int .u64 y, .bool true] 60))
  have HA1 := Lib.hid (Mem.new w0' 60 #[.int .i64 1, .int .i64 1, .int .i64 a, .int .u64 y, .int .u64 y, .bool true])
  have hgat : hi ≤ w0'.heap.size := hD.top
  have hgag : g < w0'.heap.size := Nat.lt_of_lt_of_le G0.out.lt hS.size
  have hgaw : w.heap.size < w0'.heap.size := Nat.lt_of_lt_of_le R0.out.lt hS.size
  obtain ⟨ga, hga⟩ : ∃ ga, w0'.heap.size = ga := ⟨_, rfl⟩
  rw [hga] at HA1 hgat hgaw hgag
  first | rw [hga] | skip
  clear hc hD hS hga
  obtain ⟨W1, hW⟩ : ∃ W', w0'.alloc (.cells #[.int .i64 1, .int .i64 1, .int .i64 a, .int .u64 y, .int .u64 y, .bool true] 60) = W' := ⟨_, rfl⟩
  rw [hW] at R1 G1 D1 F1 HA1
  first | rw [hW] | skip
  clear hW
  clear g0_0 g0_1 g0_2 g0_3 g0_4 g0_5 g0_6 g0_z R0 G0 D0 F0
  have g1_0 := Mem.cell G1.out 0
  have g1_1 := Mem.cell G1.out 1
  have g1_2 := Mem.cell G1.out 2
  have g1_3 := Mem.cell G1.out 3
  have g1_4 := Mem.cell G1.out 4
  have g1_5 := Mem.cell G1.out 5
  have g1_6 := Mem.cell G1.out 6
  have g1_z := G1.out.frozen
  have a1_0 := Mem.cell HA1.out 0
  have a1_1 := Mem.cell HA1.out 1
  have a1_2 := Mem.cell HA1.out 2
  have a1_3 := Mem.cell HA1.out 3
  have a1_4 := Mem.cell HA1.out 4
  have a1_5 := Mem.cell HA1.out 5
  simp at g1_0 g1_1 g1_2 g1_3 g1_4 g1_5 g1_6 a1_0 a1_1 a1_2 a1_3 a1_4 a1_5
  go_upto_region 12 with (fail)
  have G2 : Hid (Mem (W1.setCell ⟨g, 5, none⟩ (.int .u64 y)) g 143 #[.int .i64 1, .int .i64 a, .int .i64 o, .int .i64 r, .int .u64 bf, .int .u64 y, .bool c]) := Lib.hid (by have := G1.out.set_ 5 (.int .u64 y); simpa using this)
  have R2 := Lib.hid (R1.out.far (a := ⟨g, 5, none⟩) (by show w.heap.size ≠ g; omega) (.int .u64 y))
  have D2 := Lib.hid (D1.out.set_ ⟨g, 5, none⟩ hg (.int .u64 y))
  have F2 := Lib.hid (F1.out.set_ ⟨g, 5, none⟩ (.inl (.inr rfl)) (.int .u64 y))
  have HA2 := Lib.hid (HA1.out.far (a := ⟨g, 5, none⟩) (by show ga ≠ g; omega) (.int .u64 y))
  obtain ⟨W2, hW⟩ : ∃ W', W1.setCell ⟨g, 5, none⟩ (.int .u64 y) = W' := ⟨_, rfl⟩
  rw [hW] at R2 G2 D2 F2 HA2
  first | rw [hW] | skip
  clear hW
  clear g1_0 g1_1 g1_2 g1_3 g1_4 g1_5 g1_6 a1_0 a1_1 a1_2 a1_3 a1_4 a1_5 g1_z R1 G1 D1 F1 HA1
  have g2_0 := Mem.cell G2.out 0
  have g2_1 := Mem.cell G2.out 1
  have g2_2 := Mem.cell G2.out 2
  have g2_3 := Mem.cell G2.out 3
  have g2_4 := Mem.cell G2.out 4
  have g2_5 := Mem.cell G2.out 5
  have g2_6 := Mem.cell G2.out 6
  have g2_z := G2.out.frozen
  have a2_0 := Mem.cell HA2.out 0
  have a2_1 := Mem.cell HA2.out 1
  have a2_2 := Mem.cell HA2.out 2
  have a2_3 := Mem.cell HA2.out 3
  have a2_4 := Mem.cell HA2.out 4
  have a2_5 := Mem.cell HA2.out 5
  simp at g2_0 g2_1 g2_2 g2_3 g2_4 g2_5 g2_6 a2_0 a2_1 a2_2 a2_3 a2_4 a2_5
  go_upto_region 13 with (fail)
  have G3 : Hid (Mem (W2.setCell ⟨g, 0, none⟩ (.int .i64 2)) g 143 #[.int .i64 2, .int .i64 a, .int .i64 o, .int .i64 r, .int .u64 bf, .int .u64 y, .bool c]) := Lib.hid (by have := G2.out.set_ 0 (.int .i64 2); simpa using this)
  have R3 := Lib.hid (R2.out.far (a := ⟨g, 0, none⟩) (by show w.heap.size ≠ g; omega) (.int .i64 2))
  have D3 := Lib.hid (D2.out.set_ ⟨g, 0, none⟩ hg (.int .i64 2))
  have F3 := Lib.hid (F2.out.set_ ⟨g, 0, none⟩ (.inl (.inr rfl)) (.int .i64 2))
  have HA3 := Lib.hid (HA2.out.far (a := ⟨g, 0, none⟩) (by show ga ≠ g; omega) (.int .i64 2))
  obtain ⟨W3, hW⟩ : ∃ W', W2.setCell ⟨g, 0, none⟩ (.int .i64 2) = W' := ⟨_, rfl⟩
  rw [hW] at R3 G3 D3 F3 HA3
  first | rw [hW] | skip
  clear hW
  clear g2_0 g2_1 g2_2 g2_3 g2_4 g2_5 g2_6 a2_0 a2_1 a2_2 a2_3 a2_4 a2_5 g2_z R2 G2 D2 F2 HA2
  have g3_0 := Mem.cell G3.out 0
  have g3_1 := Mem.cell G3.out 1
  have g3_2 := Mem.cell G3.out 2
  have g3_3 := Mem.cell G3.out 3
  have g3_4 := Mem.cell G3.out 4
  have g3_5 := Mem.cell G3.out 5
  have g3_6 := Mem.cell G3.out 6
  have g3_z := G3.out.frozen
  have a3_0 := Mem.cell HA3.out 0
  have a3_1 := Mem.cell HA3.out 1
  have a3_2 := Mem.cell HA3.out 2
  have a3_3 := Mem.cell HA3.out 3
  have a3_4 := Mem.cell HA3.out 4
  have a3_5 := Mem.cell HA3.out 5
  simp at g3_0 g3_1 g3_2 g3_3 g3_4 g3_5 g3_6 a3_0 a3_1 a3_2 a3_3 a3_4 a3_5
  have r0_0 := Mem.cell R3.out 0
  have r0_1 := Mem.cell R3.out 1
  have r0_2 := Mem.cell R3.out 2
  have r0_3 := Mem.cell R3.out 3
  have r0_4 := Mem.cell R3.out 4
  have r0_5 := Mem.cell R3.out 5
  have r0_z := R3.out.frozen
  go_wp2
  obtain ⟨M5, S5⟩ := store6 R3.out (.int .i64 1) (.int .i64 1) (.int .i64 a) (.int .u64 y) (.int .u64 y) (.bool true)
  have D5 := D3.out.fr (P := fun x => x = w.heap.size) (Fr.of_stay S5 fun x a c => by omega) fun x a c => by omega
  have G5 := mem_fr (P := fun x => x = w.heap.size) G3.out (Fr.of_stay S5 fun x a c => by omega) (by omega)
  have F5 := Fr.then (Q := fun x => x = w.heap.size) F3.out (Fr.of_stay S5 fun x a c => by omega) fun x a c => by omega
  obtain ⟨V, hV⟩ : ∃ V, ((((((W3.setCell ⟨w.heap.size, 0, none⟩ (.int .i64 1)).setCell ⟨w.heap.size, 1, none⟩ (.int .i64 1)).setCell ⟨w.heap.size, 2, none⟩ (.int .i64 a)).setCell ⟨w.heap.size, 3, none⟩ (.int .u64 y)).setCell ⟨w.heap.size, 4, none⟩ (.int .u64 y)).setCell ⟨w.heap.size, 5, none⟩ (.bool true)) = V := ⟨_, rfl⟩
  rw [hV] at M5 D5 F5 G5 ⊢
  refine bodyPost_ret (v := .agg #[.int .i64 1, .int .i64 1, .int .i64 a, .int .u64 y, .int .u64 y, .bool true]) (results_cell_row rfl _ _ w.heap.size 60 #[.int .i64 1, .int .i64 1, .int .i64 a, .int .u64 y, .int .u64 y, .bool true] (0, 0) _ (by simp) M5 Try.underlying60 rfl (by kernel_rfl)) rfl ⟨rfl, D5, G5, F5⟩

theorem rd_s2 {lo hi b rb : Nat} {w : World} {q : Cfg} {A B : Int → List Int} (h : Duo lo hi w b rb q A B) {g : Nat} (hg : g < lo ∨ hi ≤ g) (a r bf vl : Int) (c d : Bool) (o : Nat) (hl : o < (A 2).length) (x : Int) (hx : (A 2).getD o 0 = x) (hd : (x != bf) = d) (M : Mem w g 143 #[.int .i64 2, .int .i64 a, .int .i64 o, .int .i64 r, .int .u64 bf, .int .u64 vl, .bool c]) : Calls Try.prog 53 #[.pointer (some ⟨g, 0, none⟩), .pointer (some ⟨b, 0, none⟩)] w fun e w' => e = .returned (accV 1 2 o x x true) ∧ Duo lo hi w' b rb q A B ∧ Mem w' g 143 #[.int .i64 3, .int .i64 a, .int .i64 o, .int .i64 r, .int .u64 bf, .int .u64 vl, .bool d] ∧ Fr (PG lo hi g) w w' := by
  have htop := h.top
  have R0 := Lib.hid (Mem.new w 60 #[.int .i64 0, .int .i64 0, .int .i64 0, .int .u64 0, .int .u64 0, .bool false])
  have G0 := Lib.hid (M.alloc (.cells #[.int .i64 0, .int .i64 0, .int .i64 0, .int .u64 0, .int .u64 0, .bool false] 60))
  have D0 := Lib.hid (h.alloc (.cells #[.int .i64 0, .int .i64 0, .int .i64 0, .int .u64 0, .int .u64 0, .bool false] 60))
  have F0 := Lib.hid ((Fr.refl (PG lo hi g) w).alloc (.cells #[.int .i64 0, .int .i64 0, .int .i64 0, .int .u64 0, .int .u64 0, .bool false] 60))
  have hgw := M.lt
  have hrw := R0.out.lt
  clear h M
  go_enter Try.func53, Try.ntmps53
  go_upto_region 1 with (fail)
  obtain ⟨W0, hW⟩ : ∃ W', w.alloc (.cells #[.int .i64 0, .int .i64 0, .int .i64 0, .int .u64 0, .int .u64 0, .bool false] 60) = W' := ⟨_, rfl⟩
  rw [hW] at R0 G0 D0 F0
  first | rw [hW] | skip
  clear hW
  have g0_0 := Mem.cell G0.out 0
  have g0_1 := Mem.cell G0.out 1
  have g0_2 := Mem.cell G0.out 2
  have g0_3 := Mem.cell G0.out 3
  have g0_4 := Mem.cell G0.out 4
  have g0_5 := Mem.cell G0.out 5
  have g0_6 := Mem.cell G0.out 6
  have g0_z := G0.out.frozen
  simp at g0_0 g0_1 g0_2 g0_3 g0_4 g0_5 g0_6
  have hc := rd_load D0.out 2 (by decide) o hl x hx
  go_upto_region 16 with ((go_at_call 87; refine hc.mono ?_; rintro e w0' ⟨rfl, hD, hS⟩))
  have R1 := Lib.hid ((Mem.of_eq R0.out (hS.block w.heap.size R0.out.lt (.inr htop))).alloc (.cells #[.int .i64 1, .int .i64 2, .int .i64 o, .int .u64 x, .int .u64 x, .bool true] 60))
  have G1 := Lib.hid ((Mem.of_eq G0.out (hS.block g G0.out.lt hg)).alloc (.cells #[.int .i64 1, .int .i64 2, .int .i64 o, .int .u64 x, .int .u64 x, .bool true] 60))
  have D1 := Lib.hid ((hD).alloc (.cells #[.int .i64 1, .int .i64 2, .int .i64 o, .int .u64 x, .int .u64 x, .bool true] 60))
  have F1 := Lib.hid ((F0.out.trans (Fr.of_stay hS fun x a c => .inl ⟨a, c⟩)).alloc (.cells #[.int .i64 1, .int .i64 2, .int .i64 o, .int .u64 x, .int .u64 x, .bool true] 60))
  have HA1 := Lib.hid (Mem.new w0' 60 #[.int .i64 1, .int .i64 2, .int .i64 o, .int .u64 x, .int .u64 x, .bool true])
  have hgat : hi ≤ w0'.heap.size := hD.top
  have hgag : g < w0'.heap.size := Nat.lt_of_lt_of_le G0.out.lt hS.size
  have hgaw : w.heap.size < w0'.heap.size := Nat.lt_of_lt_of_le R0.out.lt hS.size
  obtain ⟨ga, hga⟩ : ∃ ga, w0'.heap.size = ga := ⟨_, rfl⟩
  rw [hga] at HA1 hgat hgaw hgag
  first | rw [hga] | skip
  clear hc hD hS hga
  obtain ⟨W1, hW⟩ : ∃ W', w0'.alloc (.cells #[.int .i64 1, .int .i64 2, .int .i64 o, .int .u64 x, .int .u64 x, .bool true] 60) = W' := ⟨_, rfl⟩
  rw [hW] at R1 G1 D1 F1 HA1
  first | rw [hW] | skip
  clear hW
  clear g0_0 g0_1 g0_2 g0_3 g0_4 g0_5 g0_6 g0_z R0 G0 D0 F0
  have g1_0 := Mem.cell G1.out 0
  have g1_1 := Mem.cell G1.out 1
  have g1_2 := Mem.cell G1.out 2
  have g1_3 := Mem.cell G1.out 3
  have g1_4 := Mem.cell G1.out 4
  have g1_5 := Mem.cell G1.out 5
  have g1_6 := Mem.cell G1.out 6
  have g1_z := G1.out.frozen
  have a1_0 := Mem.cell HA1.out 0
  have a1_1 := Mem.cell HA1.out 1
  have a1_2 := Mem.cell HA1.out 2
  have a1_3 := Mem.cell HA1.out 3
  have a1_4 := Mem.cell HA1.out 4
  have a1_5 := Mem.cell HA1.out 5
  simp at g1_0 g1_1 g1_2 g1_3 g1_4 g1_5 g1_6 a1_0 a1_1 a1_2 a1_3 a1_4 a1_5
  have R2 := Lib.hid (R1.out.drewN 1)
  have G2 := Lib.hid (G1.out.drewN 1)
  have D2 := Lib.hid (D1.out.drewN 1)
  have F2 := Lib.hid (F1.out.drewN 1)
  have HA2 := Lib.hid (HA1.out.drewN 1)
  have hs0 : (fun W : World => W.cell? ⟨ga, 3, none⟩ = some (.int .u64 x) ∧ W.cell? ⟨g, 4, none⟩ = some (.int .u64 bf)) (W1.drew) := ⟨a1_3, g1_4⟩
  have hc := rd_finish 2 a o r bf vl c d G2.out
  rw [show W1.drewN 1 = W1.drew from rfl] at hc
  have hka : ∀ W', Mem W' g 143 #[.int .i64 3, .int .i64 a, .int .i64 o, .int .i64 r, .int .u64 bf, .int .u64 vl, .bool d] → Fr (fun x => x = g) W1.drew W' → (fun W : World => W.cell? ⟨ga, 3, none⟩ = some (.int .u64 x) ∧ W.cell? ⟨g, 4, none⟩ = some (.int .u64 bf)) W' := fun W' hM hF => ⟨(mem_fr (P := fun x => x = g) HA2.out hF (by omega)).cell 3, hM.cell 4⟩
  go_region_held3 (fun W : World => W.cell? ⟨ga, 3, none⟩ = some (.int .u64 x) ∧ W.cell? ⟨g, 4, none⟩ = some (.int .u64 bf)) (first | (with_reducible exact hs0) | (with_reducible assumption)) (first | (go_at_call 90; (with_reducible refine hc.mono ?_); rintro e w2' ⟨rfl, hM, hF⟩; have hk1 := hka _ hM hF))
  have G3 : Hid (Mem w2' g 143 #[.int .i64 3, .int .i64 a, .int .i64 o, .int .i64 r, .int .u64 bf, .int .u64 vl, .bool d]) := Lib.hid hM
  have R3 := Lib.hid (mem_fr R2.out hF (by omega))
  have D3 := Lib.hid (D2.out.fr hF (fun x a c => by omega))
  have F3 := Lib.hid (F2.out.then hF (fun x a c => .inr c))
  have HA3 := Lib.hid (mem_fr HA2.out hF (by omega))
  clear hc hka hs0 hk1 hM hF g1_0 g1_1 g1_2 g1_3 g1_4 g1_5 g1_6 a1_0 a1_1 a1_2 a1_3 a1_4 a1_5 g1_z R1 G1 D1 F1 HA1 R2 G2 D2 F2 HA2
  have g3_0 := Mem.cell G3.out 0
  have g3_1 := Mem.cell G3.out 1
  have g3_2 := Mem.cell G3.out 2
  have g3_3 := Mem.cell G3.out 3
  have g3_4 := Mem.cell G3.out 4
  have g3_5 := Mem.cell G3.out 5
  have g3_6 := Mem.cell G3.out 6
  have g3_z := G3.out.frozen
  have a3_0 := Mem.cell HA3.out 0
  have a3_1 := Mem.cell HA3.out 1
  have a3_2 := Mem.cell HA3.out 2
  have a3_3 := Mem.cell HA3.out 3
  have a3_4 := Mem.cell HA3.out 4
  have a3_5 := Mem.cell HA3.out 5
  simp at g3_0 g3_1 g3_2 g3_3 g3_4 g3_5 g3_6 a3_0 a3_1 a3_2 a3_3 a3_4 a3_5
  go_upto_region 17 with (fail)
  have r0_0 := Mem.cell R3.out 0
  have r0_1 := Mem.cell R3.out 1
  have r0_2 := Mem.cell R3.out 2
  have r0_3 := Mem.cell R3.out 3
  have r0_4 := Mem.cell R3.out 4
  have r0_5 := Mem.cell R3.out 5
  have r0_z := R3.out.frozen
  go_wp2
  obtain ⟨M5, S5⟩ := store6 R3.out (.int .i64 1) (.int .i64 2) (.int .i64 o) (.int .u64 x) (.int .u64 x) (.bool true)
  have D5 := D3.out.fr (P := fun x => x = w.heap.size) (Fr.of_stay S5 fun x a c => by omega) fun x a c => by omega
  have G5 := mem_fr (P := fun x => x = w.heap.size) G3.out (Fr.of_stay S5 fun x a c => by omega) (by omega)
  have F5 := Fr.then (Q := fun x => x = w.heap.size) F3.out (Fr.of_stay S5 fun x a c => by omega) fun x a c => by omega
  obtain ⟨V, hV⟩ : ∃ V, ((((((w2'.setCell ⟨w.heap.size, 0, none⟩ (.int .i64 1)).setCell ⟨w.heap.size, 1, none⟩ (.int .i64 2)).setCell ⟨w.heap.size, 2, none⟩ (.int .i64 o)).setCell ⟨w.heap.size, 3, none⟩ (.int .u64 x)).setCell ⟨w.heap.size, 4, none⟩ (.int .u64 x)).setCell ⟨w.heap.size, 5, none⟩ (.bool true)) = V := ⟨_, rfl⟩
  rw [hV] at M5 D5 F5 G5 ⊢
  refine bodyPost_ret (v := .agg #[.int .i64 1, .int .i64 2, .int .i64 o, .int .u64 x, .int .u64 x, .bool true]) (results_cell_row rfl _ _ w.heap.size 60 #[.int .i64 1, .int .i64 2, .int .i64 o, .int .u64 x, .int .u64 x, .bool true] (0, 0) _ (by simp) M5 Try.underlying60 rfl (by kernel_rfl)) rfl ⟨rfl, D5, G5, F5⟩

theorem rd_s3 {lo hi b rb : Nat} {w : World} {q : Cfg} {A B : Int → List Int} (h : Duo lo hi w b rb q A B) {g : Nat} (hg : g < lo ∨ hi ≤ g) (a o r bf vl : Int) (c : Bool) (M : Mem w g 143 #[.int .i64 3, .int .i64 a, .int .i64 o, .int .i64 r, .int .u64 bf, .int .u64 vl, .bool c]) : Calls Try.prog 53 #[.pointer (some ⟨g, 0, none⟩), .pointer (some ⟨b, 0, none⟩)] w fun e w' => e = .returned (accV 0 0 0 0 0 false) ∧ Duo lo hi w' b rb q A B ∧ Mem w' g 143 #[.int .i64 3, .int .i64 a, .int .i64 o, .int .i64 r, .int .u64 bf, .int .u64 vl, .bool c] ∧ Fr (PG lo hi g) w w' := by
  have htop := h.top
  have R0 := Lib.hid (Mem.new w 60 #[.int .i64 0, .int .i64 0, .int .i64 0, .int .u64 0, .int .u64 0, .bool false])
  have G0 := Lib.hid (M.alloc (.cells #[.int .i64 0, .int .i64 0, .int .i64 0, .int .u64 0, .int .u64 0, .bool false] 60))
  have D0 := Lib.hid (h.alloc (.cells #[.int .i64 0, .int .i64 0, .int .i64 0, .int .u64 0, .int .u64 0, .bool false] 60))
  have F0 := Lib.hid ((Fr.refl (PG lo hi g) w).alloc (.cells #[.int .i64 0, .int .i64 0, .int .i64 0, .int .u64 0, .int .u64 0, .bool false] 60))
  have hgw := M.lt
  have hrw := R0.out.lt
  clear h M
  go_enter Try.func53, Try.ntmps53
  go_upto_region 1 with (fail)
  obtain ⟨W0, hW⟩ : ∃ W', w.alloc (.cells #[.int .i64 0, .int .i64 0, .int .i64 0, .int .u64 0, .int .u64 0, .bool false] 60) = W' := ⟨_, rfl⟩
  rw [hW] at R0 G0 D0 F0
  first | rw [hW] | skip
  clear hW
  have g0_0 := Mem.cell G0.out 0
  have g0_1 := Mem.cell G0.out 1
  have g0_2 := Mem.cell G0.out 2
  have g0_3 := Mem.cell G0.out 3
  have g0_4 := Mem.cell G0.out 4
  have g0_5 := Mem.cell G0.out 5
  have g0_6 := Mem.cell G0.out 6
  have g0_z := G0.out.frozen
  simp at g0_0 g0_1 g0_2 g0_3 g0_4 g0_5 g0_6
  have r0_0 := Mem.cell R0.out 0
  have r0_1 := Mem.cell R0.out 1
  have r0_2 := Mem.cell R0.out 2
  have r0_3 := Mem.cell R0.out 3
  have r0_4 := Mem.cell R0.out 4
  have r0_5 := Mem.cell R0.out 5
  have r0_z := R0.out.frozen
  go_wp2
  obtain ⟨M5, S5⟩ := store6 R0.out (.int .i64 0) (.int .i64 0) (.int .i64 0) (.int .u64 0) (.int .u64 0) (.bool false)
  have D5 := D0.out.fr (P := fun x => x = w.heap.size) (Fr.of_stay S5 fun x a c => by omega) fun x a c => by omega
  have G5 := mem_fr (P := fun x => x = w.heap.size) G0.out (Fr.of_stay S5 fun x a c => by omega) (by omega)
  have F5 := Fr.then (Q := fun x => x = w.heap.size) F0.out (Fr.of_stay S5 fun x a c => by omega) fun x a c => by omega
  obtain ⟨V, hV⟩ : ∃ V, ((((((W0.setCell ⟨w.heap.size, 0, none⟩ (.int .i64 0)).setCell ⟨w.heap.size, 1, none⟩ (.int .i64 0)).setCell ⟨w.heap.size, 2, none⟩ (.int .i64 0)).setCell ⟨w.heap.size, 3, none⟩ (.int .u64 0)).setCell ⟨w.heap.size, 4, none⟩ (.int .u64 0)).setCell ⟨w.heap.size, 5, none⟩ (.bool false)) = V := ⟨_, rfl⟩
  rw [hV] at M5 D5 F5 G5 ⊢
  refine bodyPost_ret (v := .agg #[.int .i64 0, .int .i64 0, .int .i64 0, .int .u64 0, .int .u64 0, .bool false]) (results_cell_row rfl _ _ w.heap.size 60 #[.int .i64 0, .int .i64 0, .int .i64 0, .int .u64 0, .int .u64 0, .bool false] (0, 0) _ (by simp) M5 Try.underlying60 rfl (by kernel_rfl)) rfl ⟨rfl, D5, G5, F5⟩

theorem rd_done (g : Nat) (st a o r bf vl : Int) (c : Bool) (w : World) (M : Mem w g 143 #[.int .i64 st, .int .i64 a, .int .i64 o, .int .i64 r, .int .u64 bf, .int .u64 vl, .bool c]) : Calls Try.prog 55 #[.pointer (some ⟨g, 0, none⟩)] w fun e w' => e = .returned (.bool (st == 3)) ∧ w = w' := by
  have c0 := M.cell 0
  simp at c0
  clear M
  go_enter Try.func55, Try.ntmps55
  go_wp2
  go_ret
  exact ⟨rfl, rfl⟩

theorem rd_conflict (g : Nat) (st a o r bf vl : Int) (c : Bool) (w : World) (M : Mem w g 143 #[.int .i64 st, .int .i64 a, .int .i64 o, .int .i64 r, .int .u64 bf, .int .u64 vl, .bool c]) : Calls Try.prog 57 #[.pointer (some ⟨g, 0, none⟩)] w fun e w' => e = .returned (.bool c) ∧ w = w' := by
  have c6 := M.cell 6
  simp at c6
  clear M
  go_enter Try.func57, Try.ntmps57
  go_wp2
  go_ret
  exact ⟨rfl, rfl⟩

theorem rd_value_not (g : Nat) (st a o r bf vl : Int) (c : Bool) (hst : (st == 3) = false) (w : World) (M : Mem w g 143 #[.int .i64 st, .int .i64 a, .int .i64 o, .int .i64 r, .int .u64 bf, .int .u64 vl, .bool c]) : Calls Try.prog 58 #[.pointer (some ⟨g, 0, none⟩)] w fun e w' => e = .returned (.int .u64 0) ∧ ∃ n, w' = w.drewN n := by
  have c0 := M.cell 0
  have c5 := M.cell 5
  have c6 := M.cell 6
  simp at c0 c5 c6
  have hdn := rd_done g st a o r bf vl c w M
  first | rw [hst] at hdn | skip
  clear M
  go_enter Try.func58, Try.ntmps58
  go_wp2_with (go_at_call 55; (with_reducible refine hdn.mono ?_); rintro e w1 ⟨rfl, rfl⟩)
  go_ret
  exact ⟨rfl, 0, rfl⟩

theorem rd_value_no (g : Nat) (a o r bf vl : Int) (w : World) (M : Mem w g 143 #[.int .i64 3, .int .i64 a, .int .i64 o, .int .i64 r, .int .u64 bf, .int .u64 vl, .bool true]) : Calls Try.prog 58 #[.pointer (some ⟨g, 0, none⟩)] w fun e w' => e = .returned (.int .u64 0) ∧ ∃ n, w' = w.drewN n := by
  have c0 := M.cell 0
  have c5 := M.cell 5
  have c6 := M.cell 6
  simp at c0 c5 c6
  have hdn := rd_done g 3 a o r bf vl true w M
  first | rw [hst] at hdn | skip
  clear M
  go_enter Try.func58, Try.ntmps58
  go_wp2_with (go_at_call 55; (with_reducible refine hdn.mono ?_); rintro e w1 ⟨rfl, rfl⟩)
  go_ret
  exact ⟨rfl, 0, rfl⟩

theorem rd_value (g : Nat) (a o r bf vl : Int) (w : World) (M : Mem w g 143 #[.int .i64 3, .int .i64 a, .int .i64 o, .int .i64 r, .int .u64 bf, .int .u64 vl, .bool false]) : Calls Try.prog 58 #[.pointer (some ⟨g, 0, none⟩)] w fun e w' => e = .returned (.int .u64 vl) ∧ ∃ n, w' = w.drewN n := by
  have c0 := M.cell 0
  have c5 := M.cell 5
  have c6 := M.cell 6
  simp at c0 c5 c6
  have hdn := rd_done g 3 a o r bf vl false w M
  first | rw [hst] at hdn | skip
  clear M
  go_enter Try.func58, Try.ntmps58
  go_wp2_with (go_at_call 55; (with_reducible refine hdn.mono ?_); rintro e w1 ⟨rfl, rfl⟩)
  go_ret
  exact ⟨rfl, 0, rfl⟩

theorem rd_new (a o r : Int) (w : World) : Calls Try.prog 50 #[.int .i64 a, .int .i64 o, .int .i64 r] w fun e w' => e = .returned (.pointer (some ⟨w.heap.size, 0, none⟩)) ∧ w' = w.alloc (.cells #[.int .i64 0, .int .i64 a, .int .i64 o, .int .i64 r, .int .u64 0, .int .u64 0, .bool false] 143) := by
  go_enter Try.func50, Try.ntmps50
  go_wp2
  go_ret
  exact ⟨rfl, rfl⟩

end Go.Proofs.Ytcbhpoajpingcaa.RdA
