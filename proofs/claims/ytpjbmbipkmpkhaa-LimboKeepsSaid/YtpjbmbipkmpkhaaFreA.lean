/-
  Contracts of package freelist, over the cells of both machines.
-/
import Derived.Test.YtpjbmbipkmpkhaaLabS
import Derived.Test.YtpjbmbipkmpkhaaWordE
import Derived.Deep.Cut
import Derived.Deep.DeepCutAuto
import Derived.Deep.CutBlock
namespace Go.Proofs.Ytpjbmbipkmpkhaa.FreA
open Go.ChangeShapes Go.WideShapes Go.ChangeAt Go.RowKit
open PlainT BlkW LayS LayA CelS CelM CelP CelV CelN CelO CelF LabD LabR LabP LabS CelLo WordC
set_option linter.unusedVariables false
set_option maxHeartbeats 1000000
set_option maxRecDepth 100000

theorem d_swap {lo hi b rb : Nat} {w : World} {q : Cfg} {A B : Int → List Int} (h : Duo lo hi w b rb q A B) (k : Int) (hk : 1 ≤ k ∧ k ≤ 8) (i : Nat) (hlt : i < (A k).length) (x : Int) (hx : (A k).getD i 0 = x) (o v p : Int) (d : Bool) (hp : Hid (p = if x = o then v else x)) (hd : Hid (d = decide (x = o))) : Calls Try.prog 67 #[.pointer (some ⟨b, 0, none⟩), .int .i64 k, .int .i64 i, .int .u64 o, .int .u64 v] w fun e w' => e = .returned (.tuple #[accV 3 k i x p d, .int .i64 0]) ∧ Duo lo hi w' b rb q (upd A k i p) B ∧ Stay lo hi w w' := by
  obtain ⟨m1, m2, h1, h2, hm, ho⟩ := h
  refine (CelO.m_swap lo m1 w b A h1 k hk i hlt x hx o v p d hp hd).mono ?_
  rintro e w' ⟨he, hI, hS⟩
  exact ⟨he, Duo.left h2 hm ho hI hS⟩

theorem f_load {lo hi b rb : Nat} {w : World} {q : Cfg} {A B : Int → List Int} (h : Duo lo hi w b rb q A B) (k : Int) (hk : 1 ≤ k ∧ k ≤ 8) (i : Nat) (hlt : i < (A k).length) (x : Int) (hx : (A k).getD i 0 = x) : Calls Try.prog 90 #[.pointer (some ⟨b, 0, none⟩), .int .i64 k, .int .i64 i] w fun e w' => e = .returned (accV 1 k i x x true) ∧ Duo lo hi w' b rb q A B ∧ Stay lo hi w w' := by
  have htop := h.top
  have R0 := Lib.hid (Mem.new w 62 #[.int .i64 0, .int .i64 0, .int .i64 0, .int .u64 0, .int .u64 0, .bool false])
  have D0 := Lib.hid (h.alloc (.cells #[.int .i64 0, .int .i64 0, .int .i64 0, .int .u64 0, .int .u64 0, .bool false] 62))
  have F0 := Lib.hid ((Fr.refl (PI lo hi) w).alloc (.cells #[.int .i64 0, .int .i64 0, .int .i64 0, .int .u64 0, .int .u64 0, .bool false] 62))
  have hrw := R0.out.lt
  clear h
  go_enter Try.func90, Try.ntmps90
  go_upto_region 1 with (fail)
  obtain ⟨W0, hW⟩ : ∃ W', w.alloc (.cells #[.int .i64 0, .int .i64 0, .int .i64 0, .int .u64 0, .int .u64 0, .bool false] 62) = W' := ⟨_, rfl⟩
  rw [hW] at R0 D0 F0
  first | rw [hW] | skip
  clear hW
  have hc := d_load D0.out k hk i hlt x hx
  go_upto_region 2 with ((go_at_call 70; refine hc.mono ?_; rintro e w0' ⟨rfl, hD, hS⟩))
  have R1 := Lib.hid ((Mem.of_eq R0.out (hS.block w.heap.size R0.out.lt (.inr htop))).alloc (.cells #[.int .i64 1, .int .i64 k, .int .i64 i, .int .u64 x, .int .u64 x, .bool true] 62))
  have D1 := Lib.hid ((hD).alloc (.cells #[.int .i64 1, .int .i64 k, .int .i64 i, .int .u64 x, .int .u64 x, .bool true] 62))
  have F1 := Lib.hid ((F0.out.trans (Fr.of_stay hS fun x a c => ⟨a, c⟩)).alloc (.cells #[.int .i64 1, .int .i64 k, .int .i64 i, .int .u64 x, .int .u64 x, .bool true] 62))
  have HA1 := Lib.hid (Mem.new w0' 62 #[.int .i64 1, .int .i64 k, .int .i64 i, .int .u64 x, .int .u64 x, .bool true])
  have hgat : hi ≤ w0'.heap.size := hD.top
  skip
  have hgaw : w.heap.size < w0'.heap.size := Nat.lt_of_lt_of_le R0.out.lt hS.size
  obtain ⟨ga, hga⟩ : ∃ ga, w0'.heap.size = ga := ⟨_, rfl⟩
  rw [hga] at HA1 hgat hgaw
  first | rw [hga] | skip
  clear hc hD hS hga
  obtain ⟨W1, hW⟩ : ∃ W', w0'.alloc (.cells #[.int .i64 1, .int .i64 k, .int .i64 i, .int .u64 x, .int .u64 x, .bool true] 62) = W' := ⟨_, rfl⟩
  rw [hW] at R1 D1 F1 HA1
  first | rw [hW] | skip
  clear hW
  clear R0 D0 F0
  have a1_0 := Mem.cell HA1.out 0
  have a1_1 := Mem.cell HA1.out 1
  have a1_2 := Mem.cell HA1.out 2
  have a1_3 := Mem.cell HA1.out 3
  have a1_4 := Mem.cell HA1.out 4
  have a1_5 := Mem.cell HA1.out 5
  simp at a1_0 a1_1 a1_2 a1_3 a1_4 a1_5
  have r0_0 := Mem.cell R1.out 0
  have r0_1 := Mem.cell R1.out 1
  have r0_2 := Mem.cell R1.out 2
  have r0_3 := Mem.cell R1.out 3
  have r0_4 := Mem.cell R1.out 4
  have r0_5 := Mem.cell R1.out 5
  have r0_z := R1.out.frozen
  go_wp2
  obtain ⟨M5, S5⟩ := store6 R1.out (.int .i64 1) (.int .i64 k) (.int .i64 i) (.int .u64 x) (.int .u64 x) (.bool true)
  have D5 := D1.out.fr (P := fun x => x = w.heap.size) (Fr.of_stay S5 fun x a c => by omega) fun x a c => by omega
  have F5 := Fr.then (Q := fun x => x = w.heap.size) F1.out (Fr.of_stay S5 fun x a c => by omega) fun x a c => by omega
  obtain ⟨V, hV⟩ : ∃ V, ((((((W1.setCell ⟨w.heap.size, 0, none⟩ (.int .i64 1)).setCell ⟨w.heap.size, 1, none⟩ (.int .i64 k)).setCell ⟨w.heap.size, 2, none⟩ (.int .i64 i)).setCell ⟨w.heap.size, 3, none⟩ (.int .u64 x)).setCell ⟨w.heap.size, 4, none⟩ (.int .u64 x)).setCell ⟨w.heap.size, 5, none⟩ (.bool true)) = V := ⟨_, rfl⟩
  rw [hV] at M5 D5 F5 ⊢
  refine bodyPost_ret (v := .agg #[.int .i64 1, .int .i64 k, .int .i64 i, .int .u64 x, .int .u64 x, .bool true]) (results_cell_row rfl _ _ w.heap.size 62 #[.int .i64 1, .int .i64 k, .int .i64 i, .int .u64 x, .int .u64 x, .bool true] (0, 0) _ (by simp) M5 Try.underlying62 rfl (by kernel_rfl)) rfl ⟨rfl, D5, F5.stay⟩

theorem f_swap {lo hi b rb : Nat} {w : World} {q : Cfg} {A B : Int → List Int} (h : Duo lo hi w b rb q A B) (i : Nat) (hlt : i < (A 7).length) (x : Int) (hx : (A 7).getD i 0 = x) (o v p : Int) (d : Bool) (hp : Hid (p = if x = o then v else x)) (hd : Hid (d = decide (x = o))) : Calls Try.prog 93 #[.pointer (some ⟨b, 0, none⟩), .int .i64 i, .int .u64 o, .int .u64 v] w fun e w' => e = .returned (.tuple #[accV 3 7 i x p d, .bool d]) ∧ Duo lo hi w' b rb q (upd A 7 i p) B ∧ Stay lo hi w w' := by
  have htop := h.top
  have R0 := Lib.hid (Mem.new w 62 #[.int .i64 0, .int .i64 0, .int .i64 0, .int .u64 0, .int .u64 0, .bool false])
  have D0 := Lib.hid (h.alloc (.cells #[.int .i64 0, .int .i64 0, .int .i64 0, .int .u64 0, .int .u64 0, .bool false] 62))
  have F0 := Lib.hid ((Fr.refl (PI lo hi) w).alloc (.cells #[.int .i64 0, .int .i64 0, .int .i64 0, .int .u64 0, .int .u64 0, .bool false] 62))
  have hrw := R0.out.lt
  clear h
  go_enter Try.func93, Try.ntmps93
  go_upto_region 1 with (fail)
  obtain ⟨W0, hW⟩ : ∃ W', w.alloc (.cells #[.int .i64 0, .int .i64 0, .int .i64 0, .int .u64 0, .int .u64 0, .bool false] 62) = W' := ⟨_, rfl⟩
  rw [hW] at R0 D0 F0
  first | rw [hW] | skip
  clear hW
  have hc := d_swap D0.out 7 (by decide) i hlt x hx o v p d hp hd
  have hR : ∀ w1, Stay lo hi W0 w1 → Mem w1 w.heap.size 62 #[.int .i64 0, .int .i64 0, .int .i64 0, .int .u64 0, .int .u64 0, .bool false] := fun w1 hS => Mem.of_eq R0.out (hS.block w.heap.size R0.out.lt (.inr htop))
  go_upto_region 2 with ((go_at_call 67; (with_reducible refine hc.mono ?_); rintro e w1 ⟨rfl, hD, hS⟩; have M1 := hR w1 hS; have d0 := M1.cell 0; have d1 := M1.cell 1; have d2 := M1.cell 2; have d3 := M1.cell 3; have d4 := M1.cell 4; have d5 := M1.cell 5; have df := M1.frozen))
  have M1 := hR w1 hS
  obtain ⟨M2, S2⟩ := store6 M1 (.int .i64 3) (.int .i64 7) (.int .i64 i) (.int .u64 x) (.int .u64 p) (.bool d)
  have D2 := hD.fr (P := fun x => x = w.heap.size) (Fr.of_stay S2 fun x a c => by omega) fun x a c => by omega
  have F2 := Fr.then (Q := fun x => x = w.heap.size) (F0.out.trans (Fr.of_stay hS fun x a c => ⟨a, c⟩)) (Fr.of_stay S2 fun x a c => by omega) fun x a c => by omega
  obtain ⟨V, hV⟩ : ∃ V, ((((((w1.setCell ⟨w.heap.size, 0, none⟩ (.int .i64 3)).setCell ⟨w.heap.size, 1, none⟩ (.int .i64 7)).setCell ⟨w.heap.size, 2, none⟩ (.int .i64 i)).setCell ⟨w.heap.size, 3, none⟩ (.int .u64 x)).setCell ⟨w.heap.size, 4, none⟩ (.int .u64 p)).setCell ⟨w.heap.size, 5, none⟩ (.bool d)) = V := ⟨_, rfl⟩
  rw [hV] at M2 D2 F2 ⊢
  clear hV d0 d1 d2 d3 d4 d5 df M1 S2 hD hS hc hR R0 D0 F0
  have HM := Lib.hid M2
  have HD := Lib.hid D2
  have HF := Lib.hid F2
  clear M2 D2 F2
  have r0 := HM.out.cell 0
  have r1 := HM.out.cell 1
  have r2 := HM.out.cell 2
  have r3 := HM.out.cell 3
  have r4 := HM.out.cell 4
  have r5 := HM.out.cell 5
  simp at r0 r1 r2 r3 r4 r5
  have rz := HM.out.frozen
  have hxo : (x == o) = d := by rw [hd.out]; by_cases e : x = o <;> simp [e]
  go_wp2
  obtain ⟨M5, S5⟩ := store6 HM.out (.int .i64 3) (.int .i64 7) (.int .i64 i) (.int .u64 x) (.int .u64 p) (.bool d)
  have D5 := HD.out.fr (P := fun x => x = w.heap.size) (Fr.of_stay S5 fun x a c => by omega) fun x a c => by omega
  have F5 := Fr.then (Q := fun x => x = w.heap.size) HF.out (Fr.of_stay S5 fun x a c => by omega) fun x a c => by omega
  obtain ⟨V5, hV⟩ : ∃ V5, ((((((V.setCell ⟨w.heap.size, 0, none⟩ (.int .i64 3)).setCell ⟨w.heap.size, 1, none⟩ (.int .i64 7)).setCell ⟨w.heap.size, 2, none⟩ (.int .i64 i)).setCell ⟨w.heap.size, 3, none⟩ (.int .u64 x)).setCell ⟨w.heap.size, 4, none⟩ (.int .u64 p)).setCell ⟨w.heap.size, 5, none⟩ (.bool d)) = V5 := ⟨_, rfl⟩
  rw [hV] at M5 D5 F5 ⊢
  clear hV
  have e0 := M5.cell 0
  have e1 := M5.cell 1
  have e2 := M5.cell 2
  have e3 := M5.cell 3
  have e4 := M5.cell 4
  have e5 := M5.cell 5
  simp at e0 e1 e2 e3 e4 e5
  refine bodyPost_ret (v := .tuple #[.agg #[.int .i64 3, .int .i64 7, .int .i64 i, .int .u64 x, .int .u64 p, .bool d], .bool d]) ((results_cell_tmp rfl _ _ _).trans (by simp [go_sem, e0, e1, e2, e3, e4, e5])) rfl ⟨rfl, D5, F5.stay⟩

theorem p_load_some {lo hi b rb : Nat} {w : World} {q : Cfg} {A B : Int → List Int} (h : Duo lo hi w b rb q A B) {g : Nat} (hg : g < lo ∨ hi ≤ g) (ow n bl : Int) (c : Nat) (hl : c < (A 7).length) (x : Int) (hx : (A 7).getD c 0 = x) (x0 : 0 ≤ x) (x1 : x ≤ 18446744073709551615) (ht : (x % 65536 - 1 == -1) = false) (M : Mem w g 148 #[.int .i64 0, .int .i64 c, .int .u64 ow, .int .i64 n, .int .i64 bl]) : Calls Try.prog 38 #[.pointer (some ⟨g, 0, none⟩), .pointer (some ⟨b, 0, none⟩)] w fun e w' => e = .returned (accV 1 7 c x x true) ∧ Duo lo hi w' b rb q A B ∧ Mem w' g 148 #[.int .i64 1, .int .i64 c, .int .u64 x, .int .i64 n, .int .i64 bl] ∧ Fr (PG lo hi g) w w' := by
  have htop := h.top
  have R0 := Lib.hid (Mem.new w 62 #[.int .i64 0, .int .i64 0, .int .i64 0, .int .u64 0, .int .u64 0, .bool false])
  have G0 := Lib.hid (M.alloc (.cells #[.int .i64 0, .int .i64 0, .int .i64 0, .int .u64 0, .int .u64 0, .bool false] 62))
  have D0 := Lib.hid (h.alloc (.cells #[.int .i64 0, .int .i64 0, .int .i64 0, .int .u64 0, .int .u64 0, .bool false] 62))
  have F0 := Lib.hid ((Fr.refl (PG lo hi g) w).alloc (.cells #[.int .i64 0, .int .i64 0, .int .i64 0, .int .u64 0, .int .u64 0, .bool false] 62))
  have hgw := M.lt
  have hrw := R0.out.lt
  clear h M
  go_enter Try.func38, Try.ntmps38
  go_upto_region 1 with (fail)
  obtain ⟨W0, hW⟩ : ∃ W', w.alloc (.cells #[.int .i64 0, .int .i64 0, .int .i64 0, .int .u64 0, .int .u64 0, .bool false] 62) = W' := ⟨_, rfl⟩
  rw [hW] at R0 G0 D0 F0
  first | rw [hW] | skip
  clear hW
  have g0_0 := Mem.cell G0.out 0
  have g0_1 := Mem.cell G0.out 1
  have g0_2 := Mem.cell G0.out 2
  have g0_3 := Mem.cell G0.out 3
  have g0_4 := Mem.cell G0.out 4
  have g0_z := G0.out.frozen
  simp at g0_0 g0_1 g0_2 g0_3 g0_4
  have hc := f_load D0.out 7 (by decide) c hl x hx
  go_upto_region 4 with ((go_at_call 90; refine hc.mono ?_; rintro e w0' ⟨rfl, hD, hS⟩))
  have R1 := Lib.hid ((Mem.of_eq R0.out (hS.block w.heap.size R0.out.lt (.inr htop))).alloc (.cells #[.int .i64 1, .int .i64 7, .int .i64 c, .int .u64 x, .int .u64 x, .bool true] 62))
  have G1 := Lib.hid ((Mem.of_eq G0.out (hS.block g G0.out.lt hg)).alloc (.cells #[.int .i64 1, .int .i64 7, .int .i64 c, .int .u64 x, .int .u64 x, .bool true] 62))
  have D1 := Lib.hid ((hD).alloc (.cells #[.int .i64 1, .int .i64 7, .int .i64 c, .int .u64 x, .int .u64 x, .bool true] 62))
  have F1 := Lib.hid ((F0.out.trans (Fr.of_stay hS fun x a c => .inl ⟨a, c⟩)).alloc (.cells #[.int .i64 1, .int .i64 7, .int .i64 c, .int .u64 x, .int .u64 x, .bool true] 62))
  have HA1 := Lib.hid (Mem.new w0' 62 #[.int .i64 1, .int .i64 7, .int .i64 c, .int .u64 x, .int .u64 x, .bool true])
  have hgat : hi ≤ w0'.heap.size := hD.top
  have hgag : g < w0'.heap.size := Nat.lt_of_lt_of_le G0.out.lt hS.size
  have hgaw : w.heap.size < w0'.heap.size := Nat.lt_of_lt_of_le R0.out.lt hS.size
  obtain ⟨ga, hga⟩ : ∃ ga, w0'.heap.size = ga := ⟨_, rfl⟩
  rw [hga] at HA1 hgat hgaw hgag
  first | rw [hga] | skip
  clear hc hD hS hga
  obtain ⟨W1, hW⟩ : ∃ W', w0'.alloc (.cells #[.int .i64 1, .int .i64 7, .int .i64 c, .int .u64 x, .int .u64 x, .bool true] 62) = W' := ⟨_, rfl⟩
  rw [hW] at R1 G1 D1 F1 HA1
  first | rw [hW] | skip
  clear hW
  clear g0_0 g0_1 g0_2 g0_3 g0_4 g0_z R0 G0 D0 F0
  have g1_0 := Mem.cell G1.out 0
  have g1_1 := Mem.cell G1.out 1
  have g1_2 := Mem.cell G1.out 2
  have g1_3 := Mem.cell G1.out 3
  have g1_4 := Mem.cell G1.out 4
  have g1_z := G1.out.frozen
  have a1_0 := Mem.cell HA1.out 0
  have a1_1 := Mem.cell HA1.out 1
  have a1_2 := Mem.cell HA1.out 2
  have a1_3 := Mem.cell HA1.out 3
  have a1_4 := Mem.cell HA1.out 4
  have a1_5 := Mem.cell HA1.out 5
  simp at g1_0 g1_1 g1_2 g1_3 g1_4 a1_0 a1_1 a1_2 a1_3 a1_4 a1_5
  go_upto_region 5 with (fail)
  have G2 : Hid (Mem (W1.setCell ⟨g, 2, none⟩ (.int .u64 x)) g 148 #[.int .i64 0, .int .i64 c, .int .u64 x, .int .i64 n, .int .i64 bl]) := Lib.hid (by have := G1.out.set_ 2 (.int .u64 x); simpa using this)
  have R2 := Lib.hid (R1.out.far (a := ⟨g, 2, none⟩) (by show w.heap.size ≠ g; omega) (.int .u64 x))
  have D2 := Lib.hid (D1.out.set_ ⟨g, 2, none⟩ hg (.int .u64 x))
  have F2 := Lib.hid (F1.out.set_ ⟨g, 2, none⟩ (.inl (.inr rfl)) (.int .u64 x))
  have HA2 := Lib.hid (HA1.out.far (a := ⟨g, 2, none⟩) (by show ga ≠ g; omega) (.int .u64 x))
  obtain ⟨W2, hW⟩ : ∃ W', W1.setCell ⟨g, 2, none⟩ (.int .u64 x) = W' := ⟨_, rfl⟩
  rw [hW] at R2 G2 D2 F2 HA2
  first | rw [hW] | skip
  clear hW
  clear g1_0 g1_1 g1_2 g1_3 g1_4 a1_0 a1_1 a1_2 a1_3 a1_4 a1_5 g1_z R1 G1 D1 F1 HA1
  have g2_0 := Mem.cell G2.out 0
  have g2_1 := Mem.cell G2.out 1
  have g2_2 := Mem.cell G2.out 2
  have g2_3 := Mem.cell G2.out 3
  have g2_4 := Mem.cell G2.out 4
  have g2_z := G2.out.frozen
  have a2_0 := Mem.cell HA2.out 0
  have a2_1 := Mem.cell HA2.out 1
  have a2_2 := Mem.cell HA2.out 2
  have a2_3 := Mem.cell HA2.out 3
  have a2_4 := Mem.cell HA2.out 4
  have a2_5 := Mem.cell HA2.out 5
  simp at g2_0 g2_1 g2_2 g2_3 g2_4 a2_0 a2_1 a2_2 a2_3 a2_4 a2_5
  go_upto_region 6 with (fail)
  have G3 : Hid (Mem (W2.setCell ⟨g, 0, none⟩ (.int .i64 1)) g 148 #[.int .i64 1, .int .i64 c, .int .u64 x, .int .i64 n, .int .i64 bl]) := Lib.hid (by have := G2.out.set_ 0 (.int .i64 1); simpa using this)
  have R3 := Lib.hid (R2.out.far (a := ⟨g, 0, none⟩) (by show w.heap.size ≠ g; omega) (.int .i64 1))
  have D3 := Lib.hid (D2.out.set_ ⟨g, 0, none⟩ hg (.int .i64 1))
  have F3 := Lib.hid (F2.out.set_ ⟨g, 0, none⟩ (.inl (.inr rfl)) (.int .i64 1))
  have HA3 := Lib.hid (HA2.out.far (a := ⟨g, 0, none⟩) (by show ga ≠ g; omega) (.int .i64 1))
  obtain ⟨W3, hW⟩ : ∃ W', W2.setCell ⟨g, 0, none⟩ (.int .i64 1) = W' := ⟨_, rfl⟩
  rw [hW] at R3 G3 D3 F3 HA3
  first | rw [hW] | skip
  clear hW
  clear g2_0 g2_1 g2_2 g2_3 g2_4 a2_0 a2_1 a2_2 a2_3 a2_4 a2_5 g2_z R2 G2 D2 F2 HA2
  have g3_0 := Mem.cell G3.out 0
  have g3_1 := Mem.cell G3.out 1
  have g3_2 := Mem.cell G3.out 2
  have g3_3 := Mem.cell G3.out 3
  have g3_4 := Mem.cell G3.out 4
  have g3_z := G3.out.frozen
  have a3_0 := Mem.cell HA3.out 0
  have a3_1 := Mem.cell HA3.out 1
  have a3_2 := Mem.cell HA3.out 2
  have a3_3 := Mem.cell HA3.out 3
  have a3_4 := Mem.cell HA3.out 4
  have a3_5 := Mem.cell HA3.out 5
  simp at g3_0 g3_1 g3_2 g3_3 g3_4 a3_0 a3_1 a3_2 a3_3 a3_4 a3_5
  have r0_0 := Mem.cell R3.out 0
  have r0_1 := Mem.cell R3.out 1
  have r0_2 := Mem.cell R3.out 2
  have r0_3 := Mem.cell R3.out 3
  have r0_4 := Mem.cell R3.out 4
  have r0_5 := Mem.cell R3.out 5
  have r0_z := R3.out.frozen
  go_wp2_with (go_at_call 91; (with_reducible refine (w_top x x0 x1 _).mono ?_); rintro e w9 ⟨rfl, rfl⟩)
  obtain ⟨M5, S5⟩ := store6 R3.out (.int .i64 1) (.int .i64 7) (.int .i64 c) (.int .u64 x) (.int .u64 x) (.bool true)
  have D5 := D3.out.fr (P := fun x => x = w.heap.size) (Fr.of_stay S5 fun x a c => by omega) fun x a c => by omega
  have G5 := mem_fr (P := fun x => x = w.heap.size) G3.out (Fr.of_stay S5 fun x a c => by omega) (by omega)
  have F5 := Fr.then (Q := fun x => x = w.heap.size) F3.out (Fr.of_stay S5 fun x a c => by omega) fun x a c => by omega
  obtain ⟨V, hV⟩ : ∃ V, ((((((W3.setCell ⟨w.heap.size, 0, none⟩ (.int .i64 1)).setCell ⟨w.heap.size, 1, none⟩ (.int .i64 7)).setCell ⟨w.heap.size, 2, none⟩ (.int .i64 c)).setCell ⟨w.heap.size, 3, none⟩ (.int .u64 x)).setCell ⟨w.heap.size, 4, none⟩ (.int .u64 x)).setCell ⟨w.heap.size, 5, none⟩ (.bool true)) = V := ⟨_, rfl⟩
  rw [hV] at M5 D5 F5 G5 ⊢
  refine bodyPost_ret (v := .agg #[.int .i64 1, .int .i64 7, .int .i64 c, .int .u64 x, .int .u64 x, .bool true]) (results_cell_row rfl _ _ w.heap.size 62 #[.int .i64 1, .int .i64 7, .int .i64 c, .int .u64 x, .int .u64 x, .bool true] (0, 0) _ (by simp) M5 Try.underlying62 rfl (by kernel_rfl)) rfl ⟨rfl, D5, G5, F5⟩

theorem p_load_none {lo hi b rb : Nat} {w : World} {q : Cfg} {A B : Int → List Int} (h : Duo lo hi w b rb q A B) {g : Nat} (hg : g < lo ∨ hi ≤ g) (ow n bl : Int) (c : Nat) (hl : c < (A 7).length) (x : Int) (hx : (A 7).getD c 0 = x) (x0 : 0 ≤ x) (x1 : x ≤ 18446744073709551615) (ht : (x % 65536 - 1 == -1) = true) (M : Mem w g 148 #[.int .i64 0, .int .i64 c, .int .u64 ow, .int .i64 n, .int .i64 bl]) : Calls Try.prog 38 #[.pointer (some ⟨g, 0, none⟩), .pointer (some ⟨b, 0, none⟩)] w fun e w' => e = .returned (accV 1 7 c x x true) ∧ Duo lo hi w' b rb q A B ∧ Mem w' g 148 #[.int .i64 3, .int .i64 c, .int .u64 x, .int .i64 n, .int .i64 bl] ∧ Fr (PG lo hi g) w w' := by
  have htop := h.top
  have R0 := Lib.hid (Mem.new w 62 #[.int .i64 0, .int .i64 0, .int .i64 0, .int .u64 0, .int .u64 0, .bool false])
  have G0 := Lib.hid (M.alloc (.cells #[.int .i64 0, .int .i64 0, .int .i64 0, .int .u64 0, .int .u64 0, .bool false] 62))
  have D0 := Lib.hid (h.alloc (.cells #[.int .i64 0, .int .i64 0, .int .i64 0, .int .u64 0, .int .u64 0, .bool false] 62))
  have F0 := Lib.hid ((Fr.refl (PG lo hi g) w).alloc (.cells #[.int .i64 0, .int .i64 0, .int .i64 0, .int .u64 0, .int .u64 0, .bool false] 62))
  have hgw := M.lt
  have hrw := R0.out.lt
  clear h M
  go_enter Try.func38, Try.ntmps38
  go_upto_region 1 with (fail)
  obtain ⟨W0, hW⟩ : ∃ W', w.alloc (.cells #[.int .i64 0, .int .i64 0, .int .i64 0, .int .u64 0, .int .u64 0, .bool false] 62) = W' := ⟨_, rfl⟩
  rw [hW] at R0 G0 D0 F0
  first | rw [hW] | skip
  clear hW
  have g0_0 := Mem.cell G0.out 0
  have g0_1 := Mem.cell G0.out 1
  have g0_2 := Mem.cell G0.out 2
  have g0_3 := Mem.cell G0.out 3
  have g0_4 := Mem.cell G0.out 4
  have g0_z := G0.out.frozen
  simp at g0_0 g0_1 g0_2 g0_3 g0_4
  have hc := f_load D0.out 7 (by decide) c hl x hx
  go_upto_region 4 with ((go_at_call 90; refine hc.mono ?_; rintro e w0' ⟨rfl, hD, hS⟩))
  have R1 := Lib.hid ((Mem.of_eq R0.out (hS.block w.heap.size R0.out.lt (.inr htop))).alloc (.cells #[.int .i64 1, .int .i64 7, .int .i64 c, .int .u64 x, .int .u64 x, .bool true] 62))
  have G1 := Lib.hid ((Mem.of_eq G0.out (hS.block g G0.out.lt hg)).alloc (.cells #[.int .i64 1, .int .i64 7, .int .i64 c, .int .u64 x, .int .u64 x, .bool true] 62))
  have D1 := Lib.hid ((hD).alloc (.cells #[.int .i64 1, .int .i64 7, .int .i64 c, .int .u64 x, .int .u64 x, .bool true] 62))
  have F1 := Lib.hid ((F0.out.trans (Fr.of_stay hS fun x a c => .inl ⟨a, c⟩)).alloc (.cells #[.int .i64 1, .int .i64 7, .int .i64 c, .int .u64 x, .int .u64 x, .bool true] 62))
  have HA1 := Lib.hid (Mem.new w0' 62 #[.int .i64 1, .int .i64 7, .int .i64 c, .int .u64 x, .int .u64 x, .bool true])
  have hgat : hi ≤ w0'.heap.size := hD.top
  have hgag : g < w0'.heap.size := Nat.lt_of_lt_of_le G0.out.lt hS.size
  have hgaw : w.heap.size < w0'.heap.size := Nat.lt_of_lt_of_le R0.out.lt hS.size
  obtain ⟨ga, hga⟩ : ∃ ga, w0'.heap.size = ga := ⟨_, rfl⟩
  rw [hga] at HA1 hgat hgaw hgag
  first | rw [hga] | skip
  clear hc hD hS hga
  obtain ⟨W1, hW⟩ : ∃ W', w0'.alloc (.cells #[.int .i64 1, .int .i64 7, .int .i64 c, .int .u64 x, .int .u64 x, .bool true] 62) = W' := ⟨_, rfl⟩
  rw [hW] at R1 G1 D1 F1 HA1
  first | rw [hW] | skip
  clear hW
  clear g0_0 g0_1 g0_2 g0_3 g0_4 g0_z R0 G0 D0 F0
  have g1_0 := Mem.cell G1.out 0
  have g1_1 := Mem.cell G1.out 1
  have g1_2 := Mem.cell G1.out 2
  have g1_3 := Mem.cell G1.out 3
  have g1_4 := Mem.cell G1.out 4
  have g1_z := G1.out.frozen
  have a1_0 := Mem.cell HA1.out 0
  have a1_1 := Mem.cell HA1.out 1
  have a1_2 := Mem.cell HA1.out 2
  have a1_3 := Mem.cell HA1.out 3
  have a1_4 := Mem.cell HA1.out 4
  have a1_5 := Mem.cell HA1.out 5
  simp at g1_0 g1_1 g1_2 g1_3 g1_4 a1_0 a1_1 a1_2 a1_3 a1_4 a1_5
  go_upto_region 5 with (fail)
  have G2 : Hid (Mem (W1.setCell ⟨g, 2, none⟩ (.int .u64 x)) g 148 #[.int .i64 0, .int .i64 c, .int .u64 x, .int .i64 n, .int .i64 bl]) := Lib.hid (by have := G1.out.set_ 2 (.int .u64 x); simpa using this)
  have R2 := Lib.hid (R1.out.far (a := ⟨g, 2, none⟩) (by show w.heap.size ≠ g; omega) (.int .u64 x))
  have D2 := Lib.hid (D1.out.set_ ⟨g, 2, none⟩ hg (.int .u64 x))
  have F2 := Lib.hid (F1.out.set_ ⟨g, 2, none⟩ (.inl (.inr rfl)) (.int .u64 x))
  have HA2 := Lib.hid (HA1.out.far (a := ⟨g, 2, none⟩) (by show ga ≠ g; omega) (.int .u64 x))
  obtain ⟨W2, hW⟩ : ∃ W', W1.setCell ⟨g, 2, none⟩ (.int .u64 x) = W' := ⟨_, rfl⟩
  rw [hW] at R2 G2 D2 F2 HA2
  first | rw [hW] | skip
  clear hW
  clear g1_0 g1_1 g1_2 g1_3 g1_4 a1_0 a1_1 a1_2 a1_3 a1_4 a1_5 g1_z R1 G1 D1 F1 HA1
  have g2_0 := Mem.cell G2.out 0
  have g2_1 := Mem.cell G2.out 1
  have g2_2 := Mem.cell G2.out 2
  have g2_3 := Mem.cell G2.out 3
  have g2_4 := Mem.cell G2.out 4
  have g2_z := G2.out.frozen
  have a2_0 := Mem.cell HA2.out 0
  have a2_1 := Mem.cell HA2.out 1
  have a2_2 := Mem.cell HA2.out 2
  have a2_3 := Mem.cell HA2.out 3
  have a2_4 := Mem.cell HA2.out 4
  have a2_5 := Mem.cell HA2.out 5
  simp at g2_0 g2_1 g2_2 g2_3 g2_4 a2_0 a2_1 a2_2 a2_3 a2_4 a2_5
  go_upto_region 6 with (fail)
  have G3 : Hid (Mem (W2.setCell ⟨g, 0, none⟩ (.int .i64 1)) g 148 #[.int .i64 1, .int .i64 c, .int .u64 x, .int .i64 n, .int .i64 bl]) := Lib.hid (by have := G2.out.set_ 0 (.int .i64 1); simpa using this)
  have R3 := Lib.hid (R2.out.far (a := ⟨g, 0, none⟩) (by show w.heap.size ≠ g; omega) (.int .i64 1))
  have D3 := Lib.hid (D2.out.set_ ⟨g, 0, none⟩ hg (.int .i64 1))
  have F3 := Lib.hid (F2.out.set_ ⟨g, 0, none⟩ (.inl (.inr rfl)) (.int .i64 1))
  have HA3 := Lib.hid (HA2.out.far (a := ⟨g, 0, none⟩) (by show ga ≠ g; omega) (.int .i64 1))
  obtain ⟨W3, hW⟩ : ∃ W', W2.setCell ⟨g, 0, none⟩ (.int .i64 1) = W' := ⟨_, rfl⟩
  rw [hW] at R3 G3 D3 F3 HA3
  first | rw [hW] | skip
  clear hW
  clear g2_0 g2_1 g2_2 g2_3 g2_4 a2_0 a2_1 a2_2 a2_3 a2_4 a2_5 g2_z R2 G2 D2 F2 HA2
  have g3_0 := Mem.cell G3.out 0
  have g3_1 := Mem.cell G3.out 1
  have g3_2 := Mem.cell G3.out 2
  have g3_3 := Mem.cell G3.out 3
  have g3_4 := Mem.cell G3.out 4
  have g3_z := G3.out.frozen
  have a3_0 := Mem.cell HA3.out 0
  have a3_1 := Mem.cell HA3.out 1
  have a3_2 := Mem.cell HA3.out 2
  have a3_3 := Mem.cell HA3.out 3
  have a3_4 := Mem.cell HA3.out 4
  have a3_5 := Mem.cell HA3.out 5
  simp at g3_0 g3_1 g3_2 g3_3 g3_4 a3_0 a3_1 a3_2 a3_3 a3_4 a3_5
  go_upto_region 8 with ((go_at_call 91; (with_reducible refine (w_top x x0 x1 _).mono ?_); rintro e w9 ⟨rfl, rfl⟩))
  have G4 : Hid (Mem (W3.setCell ⟨g, 0, none⟩ (.int .i64 3)) g 148 #[.int .i64 3, .int .i64 c, .int .u64 x, .int .i64 n, .int .i64 bl]) := Lib.hid (by have := G3.out.set_ 0 (.int .i64 3); simpa using this)
  have R4 := Lib.hid (R3.out.far (a := ⟨g, 0, none⟩) (by show w.heap.size ≠ g; omega) (.int .i64 3))
  have D4 := Lib.hid (D3.out.set_ ⟨g, 0, none⟩ hg (.int .i64 3))
  have F4 := Lib.hid (F3.out.set_ ⟨g, 0, none⟩ (.inl (.inr rfl)) (.int .i64 3))
  have HA4 := Lib.hid (HA3.out.far (a := ⟨g, 0, none⟩) (by show ga ≠ g; omega) (.int .i64 3))
  obtain ⟨W4, hW⟩ : ∃ W', W3.setCell ⟨g, 0, none⟩ (.int .i64 3) = W' := ⟨_, rfl⟩
  rw [hW] at R4 G4 D4 F4 HA4
  first | rw [hW] | skip
  clear hW
  clear g3_0 g3_1 g3_2 g3_3 g3_4 a3_0 a3_1 a3_2 a3_3 a3_4 a3_5 g3_z R3 G3 D3 F3 HA3
  have g4_0 := Mem.cell G4.out 0
  have g4_1 := Mem.cell G4.out 1
  have g4_2 := Mem.cell G4.out 2
  have g4_3 := Mem.cell G4.out 3
  have g4_4 := Mem.cell G4.out 4
  have g4_z := G4.out.frozen
  have a4_0 := Mem.cell HA4.out 0
  have a4_1 := Mem.cell HA4.out 1
  have a4_2 := Mem.cell HA4.out 2
  have a4_3 := Mem.cell HA4.out 3
  have a4_4 := Mem.cell HA4.out 4
  have a4_5 := Mem.cell HA4.out 5
  simp at g4_0 g4_1 g4_2 g4_3 g4_4 a4_0 a4_1 a4_2 a4_3 a4_4 a4_5
  have r0_0 := Mem.cell R4.out 0
  have r0_1 := Mem.cell R4.out 1
  have r0_2 := Mem.cell R4.out 2
  have r0_3 := Mem.cell R4.out 3
  have r0_4 := Mem.cell R4.out 4
  have r0_5 := Mem.cell R4.out 5
  have r0_z := R4.out.frozen
  go_wp2
  obtain ⟨M5, S5⟩ := store6 R4.out (.int .i64 1) (.int .i64 7) (.int .i64 c) (.int .u64 x) (.int .u64 x) (.bool true)
  have D5 := D4.out.fr (P := fun x => x = w.heap.size) (Fr.of_stay S5 fun x a c => by omega) fun x a c => by omega
  have G5 := mem_fr (P := fun x => x = w.heap.size) G4.out (Fr.of_stay S5 fun x a c => by omega) (by omega)
  have F5 := Fr.then (Q := fun x => x = w.heap.size) F4.out (Fr.of_stay S5 fun x a c => by omega) fun x a c => by omega
  obtain ⟨V, hV⟩ : ∃ V, ((((((W4.setCell ⟨w.heap.size, 0, none⟩ (.int .i64 1)).setCell ⟨w.heap.size, 1, none⟩ (.int .i64 7)).setCell ⟨w.heap.size, 2, none⟩ (.int .i64 c)).setCell ⟨w.heap.size, 3, none⟩ (.int .u64 x)).setCell ⟨w.heap.size, 4, none⟩ (.int .u64 x)).setCell ⟨w.heap.size, 5, none⟩ (.bool true)) = V := ⟨_, rfl⟩
  rw [hV] at M5 D5 F5 G5 ⊢
  refine bodyPost_ret (v := .agg #[.int .i64 1, .int .i64 7, .int .i64 c, .int .u64 x, .int .u64 x, .bool true]) (results_cell_row rfl _ _ w.heap.size 62 #[.int .i64 1, .int .i64 7, .int .i64 c, .int .u64 x, .int .u64 x, .bool true] (0, 0) _ (by simp) M5 Try.underlying62 rfl (by kernel_rfl)) rfl ⟨rfl, D5, G5, F5⟩

theorem p_next {lo hi b rb : Nat} {w : World} {q : Cfg} {A B : Int → List Int} (h : Duo lo hi w b rb q A B) {g : Nat} (hg : g < lo ∨ hi ≤ g) (c x n bl : Int) (x0 : 0 ≤ x) (x1 : x ≤ 18446744073709551615) (j : Nat) (hj : x % 65536 - 1 = j) (hl : j < (A 8).length) (y : Int) (hy : (A 8).getD j 0 = y) (y0 : 0 ≤ y) (y1 : y ≤ 64) (M : Mem w g 148 #[.int .i64 1, .int .i64 c, .int .u64 x, .int .i64 n, .int .i64 bl]) : Calls Try.prog 38 #[.pointer (some ⟨g, 0, none⟩), .pointer (some ⟨b, 0, none⟩)] w fun e w' => e = .returned (accV 1 8 j y y true) ∧ Duo lo hi w' b rb q A B ∧ Mem w' g 148 #[.int .i64 2, .int .i64 c, .int .u64 x, .int .i64 (y - 1), .int .i64 bl] ∧ Fr (PG lo hi g) w w' := by
  have hw1 : IntKind.i64.wrap y = y := IntWalk.i64_in _ (by omega)
  have hw2 : IntKind.i64.wrap (y - 1) = y - 1 := IntWalk.i64_in _ (by omega)
  have htop := h.top
  have R0 := Lib.hid (Mem.new w 62 #[.int .i64 0, .int .i64 0, .int .i64 0, .int .u64 0, .int .u64 0, .bool false])
  have G0 := Lib.hid (M.alloc (.cells #[.int .i64 0, .int .i64 0, .int .i64 0, .int .u64 0, .int .u64 0, .bool false] 62))
  have D0 := Lib.hid (h.alloc (.cells #[.int .i64 0, .int .i64 0, .int .i64 0, .int .u64 0, .int .u64 0, .bool false] 62))
  have F0 := Lib.hid ((Fr.refl (PG lo hi g) w).alloc (.cells #[.int .i64 0, .int .i64 0, .int .i64 0, .int .u64 0, .int .u64 0, .bool false] 62))
  have hgw := M.lt
  have hrw := R0.out.lt
  clear h M
  go_enter Try.func38, Try.ntmps38
  go_upto_region 1 with (fail)
  obtain ⟨W0, hW⟩ : ∃ W', w.alloc (.cells #[.int .i64 0, .int .i64 0, .int .i64 0, .int .u64 0, .int .u64 0, .bool false] 62) = W' := ⟨_, rfl⟩
  rw [hW] at R0 G0 D0 F0
  first | rw [hW] | skip
  clear hW
  have g0_0 := Mem.cell G0.out 0
  have g0_1 := Mem.cell G0.out 1
  have g0_2 := Mem.cell G0.out 2
  have g0_3 := Mem.cell G0.out 3
  have g0_4 := Mem.cell G0.out 4
  have g0_z := G0.out.frozen
  simp at g0_0 g0_1 g0_2 g0_3 g0_4
  have htp := w_top x x0 x1
  simp only [hj] at htp
  have hc := f_load D0.out 8 (by decide) j hl y hy
  go_upto_region 11 with (first | (go_at_call 91; (with_reducible refine (htp _).mono ?_); rintro e w9 ⟨rfl, rfl⟩) | (go_at_call 90; refine hc.mono ?_; rintro e w0' ⟨rfl, hD, hS⟩))
  have R1 := Lib.hid ((Mem.of_eq R0.out (hS.block w.heap.size R0.out.lt (.inr htop))).alloc (.cells #[.int .i64 1, .int .i64 8, .int .i64 j, .int .u64 y, .int .u64 y, .bool true] 62))
  have G1 := Lib.hid ((Mem.of_eq G0.out (hS.block g G0.out.lt hg)).alloc (.cells #[.int .i64 1, .int .i64 8, .int .i64 j, .int .u64 y, .int .u64 y, .bool true] 62))
  have D1 := Lib.hid ((hD).alloc (.cells #[.int .i64 1, .int .i64 8, .int .i64 j, .int .u64 y, .int .u64 y, .bool true] 62))
  have F1 := Lib.hid ((F0.out.trans (Fr.of_stay hS fun x a c => .inl ⟨a, c⟩)).alloc (.cells #[.int .i64 1, .int .i64 8, .int .i64 j, .int .u64 y, .int .u64 y, .bool true] 62))
  have HA1 := Lib.hid (Mem.new w0' 62 #[.int .i64 1, .int .i64 8, .int .i64 j, .int .u64 y, .int .u64 y, .bool true])
  have hgat : hi ≤ w0'.heap.size := hD.top
  have hgag : g < w0'.heap.size := Nat.lt_of_lt_of_le G0.out.lt hS.size
  have hgaw : w.heap.size < w0'.heap.size := Nat.lt_of_lt_of_le R0.out.lt hS.size
  obtain ⟨ga, hga⟩ : ∃ ga, w0'.heap.size = ga := ⟨_, rfl⟩
  rw [hga] at HA1 hgat hgaw hgag
  first | rw [hga] | skip
  clear hc hD hS hga
  obtain ⟨W1, hW⟩ : ∃ W', w0'.alloc (.cells #[.int .i64 1, .int .i64 8, .int .i64 j, .int .u64 y, .int .u64 y, .bool true] 62) = W' := ⟨_, rfl⟩
  rw [hW] at R1 G1 D1 F1 HA1
  first | rw [hW] | skip
  clear hW
  clear g0_0 g0_1 g0_2 g0_3 g0_4 g0_z R0 G0 D0 F0
  have g1_0 := Mem.cell G1.out 0
  have g1_1 := Mem.cell G1.out 1
  have g1_2 := Mem.cell G1.out 2
  have g1_3 := Mem.cell G1.out 3
  have g1_4 := Mem.cell G1.out 4
  have g1_z := G1.out.frozen
  have a1_0 := Mem.cell HA1.out 0
  have a1_1 := Mem.cell HA1.out 1
  have a1_2 := Mem.cell HA1.out 2
  have a1_3 := Mem.cell HA1.out 3
  have a1_4 := Mem.cell HA1.out 4
  have a1_5 := Mem.cell HA1.out 5
  simp at g1_0 g1_1 g1_2 g1_3 g1_4 a1_0 a1_1 a1_2 a1_3 a1_4 a1_5
  go_upto_region 12 with (fail)
  have G2 : Hid (Mem (W1.setCell ⟨g, 3, none⟩ (.int .i64 (y - 1))) g 148 #[.int .i64 1, .int .i64 c, .int .u64 x, .int .i64 (y - 1), .int .i64 bl]) := Lib.hid (by have := G1.out.set_ 3 (.int .i64 (y - 1)); simpa using this)
  have R2 := Lib.hid (R1.out.far (a := ⟨g, 3, none⟩) (by show w.heap.size ≠ g; omega) (.int .i64 (y - 1)))
  have D2 := Lib.hid (D1.out.set_ ⟨g, 3, none⟩ hg (.int .i64 (y - 1)))
  have F2 := Lib.hid (F1.out.set_ ⟨g, 3, none⟩ (.inl (.inr rfl)) (.int .i64 (y - 1)))
  have HA2 := Lib.hid (HA1.out.far (a := ⟨g, 3, none⟩) (by show ga ≠ g; omega) (.int .i64 (y - 1)))
  obtain ⟨W2, hW⟩ : ∃ W', W1.setCell ⟨g, 3, none⟩ (.int .i64 (y - 1)) = W' := ⟨_, rfl⟩
  rw [hW] at R2 G2 D2 F2 HA2
  first | rw [hW] | skip
  clear hW
  clear g1_0 g1_1 g1_2 g1_3 g1_4 a1_0 a1_1 a1_2 a1_3 a1_4 a1_5 g1_z R1 G1 D1 F1 HA1
  have g2_0 := Mem.cell G2.out 0
  have g2_1 := Mem.cell G2.out 1
  have g2_2 := Mem.cell G2.out 2
  have g2_3 := Mem.cell G2.out 3
  have g2_4 := Mem.cell G2.out 4
  have g2_z := G2.out.frozen
  have a2_0 := Mem.cell HA2.out 0
  have a2_1 := Mem.cell HA2.out 1
  have a2_2 := Mem.cell HA2.out 2
  have a2_3 := Mem.cell HA2.out 3
  have a2_4 := Mem.cell HA2.out 4
  have a2_5 := Mem.cell HA2.out 5
  simp at g2_0 g2_1 g2_2 g2_3 g2_4 a2_0 a2_1 a2_2 a2_3 a2_4 a2_5
  go_upto_region 13 with (fail)
  have G3 : Hid (Mem (W2.setCell ⟨g, 0, none⟩ (.int .i64 2)) g 148 #[.int .i64 2, .int .i64 c, .int .u64 x, .int .i64 (y - 1), .int .i64 bl]) := Lib.hid (by have := G2.out.set_ 0 (.int .i64 2); simpa using this)
  have R3 := Lib.hid (R2.out.far (a := ⟨g, 0, none⟩) (by show w.heap.size ≠ g; omega) (.int .i64 2))
  have D3 := Lib.hid (D2.out.set_ ⟨g, 0, none⟩ hg (.int .i64 2))
  have F3 := Lib.hid (F2.out.set_ ⟨g, 0, none⟩ (.inl (.inr rfl)) (.int .i64 2))
  have HA3 := Lib.hid (HA2.out.far (a := ⟨g, 0, none⟩) (by show ga ≠ g; omega) (.int .i64 2))
  obtain ⟨W3, hW⟩ : ∃ W', W2.setCell ⟨g, 0, none⟩ (.int .i64 2) = W' := ⟨_, rfl⟩
  rw [hW] at R3 G3 D3 F3 HA3
  first | rw [hW] | skip
  clear hW
  clear g2_0 g2_1 g2_2 g2_3 g2_4 a2_0 a2_1 a2_2 a2_3 a2_4 a2_5 g2_z R2 G2 D2 F2 HA2
  have g3_0 := Mem.cell G3.out 0
  have g3_1 := Mem.cell G3.out 1
  have g3_2 := Mem.cell G3.out 2
  have g3_3 := Mem.cell G3.out 3
  have g3_4 := Mem.cell G3.out 4
  have g3_z := G3.out.frozen
  have a3_0 := Mem.cell HA3.out 0
  have a3_1 := Mem.cell HA3.out 1
  have a3_2 := Mem.cell HA3.out 2
  have a3_3 := Mem.cell HA3.out 3
  have a3_4 := Mem.cell HA3.out 4
  have a3_5 := Mem.cell HA3.out 5
  simp at g3_0 g3_1 g3_2 g3_3 g3_4 a3_0 a3_1 a3_2 a3_3 a3_4 a3_5
  have r0_0 := Mem.cell R3.out 0
  have r0_1 := Mem.cell R3.out 1
  have r0_2 := Mem.cell R3.out 2
  have r0_3 := Mem.cell R3.out 3
  have r0_4 := Mem.cell R3.out 4
  have r0_5 := Mem.cell R3.out 5
  have r0_z := R3.out.frozen
  go_wp2
  obtain ⟨M5, S5⟩ := store6 R3.out (.int .i64 1) (.int .i64 8) (.int .i64 j) (.int .u64 y) (.int .u64 y) (.bool true)
  have D5 := D3.out.fr (P := fun x => x = w.heap.size) (Fr.of_stay S5 fun x a c => by omega) fun x a c => by omega
  have G5 := mem_fr (P := fun x => x = w.heap.size) G3.out (Fr.of_stay S5 fun x a c => by omega) (by omega)
  have F5 := Fr.then (Q := fun x => x = w.heap.size) F3.out (Fr.of_stay S5 fun x a c => by omega) fun x a c => by omega
  obtain ⟨V, hV⟩ : ∃ V, ((((((W3.setCell ⟨w.heap.size, 0, none⟩ (.int .i64 1)).setCell ⟨w.heap.size, 1, none⟩ (.int .i64 8)).setCell ⟨w.heap.size, 2, none⟩ (.int .i64 j)).setCell ⟨w.heap.size, 3, none⟩ (.int .u64 y)).setCell ⟨w.heap.size, 4, none⟩ (.int .u64 y)).setCell ⟨w.heap.size, 5, none⟩ (.bool true)) = V := ⟨_, rfl⟩
  rw [hV] at M5 D5 F5 G5 ⊢
  refine bodyPost_ret (v := .agg #[.int .i64 1, .int .i64 8, .int .i64 j, .int .u64 y, .int .u64 y, .bool true]) (results_cell_row rfl _ _ w.heap.size 62 #[.int .i64 1, .int .i64 8, .int .i64 j, .int .u64 y, .int .u64 y, .bool true] (0, 0) _ (by simp) M5 Try.underlying62 rfl (by kernel_rfl)) rfl ⟨rfl, D5, G5, F5⟩

theorem p_take_yes {lo hi b rb : Nat} {w : World} {q : Cfg} {A B : Int → List Int} (h : Duo lo hi w b rb q A B) {g : Nat} (hg : g < lo ∨ hi ≤ g) (x n bl : Int) (x0 : 0 ≤ x) (x1 : x ≤ 18446744073709551615) (n0 : -1 ≤ n) (n1 : n < 64) (c : Nat) (hl : c < (A 7).length) (hz : (A 7).getD c 0 = x) (v : Int) (hv : (x / 65536 + 1) % 281474976710656 * 65536 + (n + 1) = v) (M : Mem w g 148 #[.int .i64 2, .int .i64 c, .int .u64 x, .int .i64 n, .int .i64 bl]) : Calls Try.prog 38 #[.pointer (some ⟨g, 0, none⟩), .pointer (some ⟨b, 0, none⟩)] w fun e w' => e = .returned (accV 3 7 c x v true) ∧ Duo lo hi w' b rb q (upd A 7 c v) B ∧ Mem w' g 148 #[.int .i64 3, .int .i64 c, .int .u64 x, .int .i64 n, .int .i64 (x % 65536 - 1)] ∧ Fr (PG lo hi g) w w' := by
  have htop := h.top
  have R0 := Lib.hid (Mem.new w 62 #[.int .i64 0, .int .i64 0, .int .i64 0, .int .u64 0, .int .u64 0, .bool false])
  have G0 := Lib.hid (M.alloc (.cells #[.int .i64 0, .int .i64 0, .int .i64 0, .int .u64 0, .int .u64 0, .bool false] 62))
  have D0 := Lib.hid (h.alloc (.cells #[.int .i64 0, .int .i64 0, .int .i64 0, .int .u64 0, .int .u64 0, .bool false] 62))
  have F0 := Lib.hid ((Fr.refl (PG lo hi g) w).alloc (.cells #[.int .i64 0, .int .i64 0, .int .i64 0, .int .u64 0, .int .u64 0, .bool false] 62))
  have hgw := M.lt
  have hrw := R0.out.lt
  clear h M
  go_enter Try.func38, Try.ntmps38
  go_upto_region 1 with (fail)
  obtain ⟨W0, hW⟩ : ∃ W', w.alloc (.cells #[.int .i64 0, .int .i64 0, .int .i64 0, .int .u64 0, .int .u64 0, .bool false] 62) = W' := ⟨_, rfl⟩
  rw [hW] at R0 G0 D0 F0
  first | rw [hW] | skip
  clear hW
  have g0_0 := Mem.cell G0.out 0
  have g0_1 := Mem.cell G0.out 1
  have g0_2 := Mem.cell G0.out 2
  have g0_3 := Mem.cell G0.out 3
  have g0_4 := Mem.cell G0.out 4
  have g0_z := G0.out.frozen
  simp at g0_0 g0_1 g0_2 g0_3 g0_4
  go_upto_region 15 with (fail)
  have R1 := Lib.hid (R0.out.drewN 1)
  have G1 := Lib.hid (G0.out.drewN 1)
  have D1 := Lib.hid (D0.out.drewN 1)
  have F1 := Lib.hid (F0.out.drewN 1)
  have hs0 : (fun W : World => W.cell? ⟨g, 2, none⟩ = some (.int .u64 x) ∧ W.cell? ⟨g, 3, none⟩ = some (.int .i64 n)) (W0.drew) := ⟨g0_2, g0_3⟩
  go_region_held3 (fun W : World => W.cell? ⟨g, 2, none⟩ = some (.int .u64 x) ∧ W.cell? ⟨g, 3, none⟩ = some (.int .i64 n)) (first | exact hs0 | assumption) (first | (go_at_call 92; (with_reducible refine (w_bump x n x0 x1 n0 n1 _).mono ?_); rintro e w9 ⟨rfl, rfl⟩))
  clear hs0
  rw [show W0.drew = W0.drewN 1 from rfl]
  obtain ⟨W1, hW⟩ : ∃ W', W0.drewN 1 = W' := ⟨_, rfl⟩
  rw [hW] at R1 G1 D1 F1
  first | rw [hW] | skip
  clear hW
  clear g0_0 g0_1 g0_2 g0_3 g0_4 g0_z R0 G0 D0 F0
  have g1_0 := Mem.cell G1.out 0
  have g1_1 := Mem.cell G1.out 1
  have g1_2 := Mem.cell G1.out 2
  have g1_3 := Mem.cell G1.out 3
  have g1_4 := Mem.cell G1.out 4
  have g1_z := G1.out.frozen
  simp at g1_0 g1_1 g1_2 g1_3 g1_4
  go_upto_region 16 with (fail)
  first | rw [hv] | skip
  go_cut [9, 10] (fun pv m0v wc => m0v = .bool true ∧ ∃ ga : Nat, pv = .pointer (some ⟨ga, 0, none⟩) ∧ Hid (Mem wc w.heap.size 62 #[.int .i64 0, .int .i64 0, .int .i64 0, .int .u64 0, .int .u64 0, .bool false]) ∧ Hid (Mem wc g 148 #[.int .i64 2, .int .i64 c, .int .u64 x, .int .i64 n, .int .i64 bl]) ∧ Hid (Duo lo hi wc b rb q (upd A 7 c v) B) ∧ Hid (Fr (PG lo hi g) w wc) ∧ Hid (Mem wc ga 62 #[.int .i64 3, .int .i64 7, .int .i64 c, .int .u64 x, .int .u64 v, .bool true]) ∧ hi ≤ ga ∧ g < ga ∧ w.heap.size < ga)
  case first =>
    have hgW : g < W1.heap.size := G1.out.lt
    have hrW : w.heap.size < W1.heap.size := R1.out.lt
    have htW : hi ≤ W1.heap.size := D1.out.top
    have hs0 : (fun W : World => W.cell? ⟨g, 1, none⟩ = some (.int .i64 c) ∧ W.cell? ⟨g, 2, none⟩ = some (.int .u64 x)) (W1.drew) := ⟨g1_1, g1_2⟩
    have hs1 : (fun W : World => W.cell? ⟨g, 1, none⟩ = some (.int .i64 c) ∧ W.cell? ⟨g, 2, none⟩ = some (.int .u64 x)) ((W1.alloc (.cells #[.int .i64 0, .int .i64 0, .int .i64 0, .int .u64 0, .int .u64 0, .bool false] 62)).drew) := ⟨((G1.out.alloc (.cells #[.int .i64 0, .int .i64 0, .int .i64 0, .int .u64 0, .int .u64 0, .bool false] 62)).drewN 1).cell 1, ((G1.out.alloc (.cells #[.int .i64 0, .int .i64 0, .int .i64 0, .int .u64 0, .int .u64 0, .bool false] 62)).drewN 1).cell 2⟩
    have hc := f_swap (D1.out.drewN 1) c hl x hz x v v true (Lib.hid (by simp)) (Lib.hid (by simp))
    rw [show W1.drewN 1 = W1.drew from rfl] at hc
    have hc2 := f_swap ((D1.out.alloc (.cells #[.int .i64 0, .int .i64 0, .int .i64 0, .int .u64 0, .int .u64 0, .bool false] 62)).drewN 1) c hl x hz x v v true (Lib.hid (by simp)) (Lib.hid (by simp))
    rw [show (W1.alloc (.cells #[.int .i64 0, .int .i64 0, .int .i64 0, .int .u64 0, .int .u64 0, .bool false] 62)).drewN 1 = (W1.alloc (.cells #[.int .i64 0, .int .i64 0, .int .i64 0, .int .u64 0, .int .u64 0, .bool false] 62)).drew from rfl] at hc2
    have hka : ∀ W', Stay lo hi W1.drew W' → ((fun W : World => W.cell? ⟨g, 1, none⟩ = some (.int .i64 c) ∧ W.cell? ⟨g, 2, none⟩ = some (.int .u64 x)) W' ∧ (fun W : World => W.cell? ⟨g, 1, none⟩ = some (.int .i64 c) ∧ W.cell? ⟨g, 2, none⟩ = some (.int .u64 x)) (W'.alloc (.cells #[.int .i64 0, .int .i64 0, .int .i64 0, .int .u64 0, .int .u64 0, .bool false] 62)) ∧ (fun W : World => W.cell? ⟨g, 1, none⟩ = some (.int .i64 c) ∧ W.cell? ⟨g, 2, none⟩ = some (.int .u64 x)) (W'.alloc (.cells #[.int .i64 3, .int .i64 7, .int .i64 c, .int .u64 x, .int .u64 v, .bool true] 62))) := fun W' hS => by
      have m := Mem.of_eq (G1.out.drewN 1) (hS.block g hgW hg)
      exact ⟨⟨m.cell 1, m.cell 2⟩, ⟨(m.alloc (.cells #[.int .i64 0, .int .i64 0, .int .i64 0, .int .u64 0, .int .u64 0, .bool false] 62)).cell 1, (m.alloc (.cells #[.int .i64 0, .int .i64 0, .int .i64 0, .int .u64 0, .int .u64 0, .bool false] 62)).cell 2⟩, ⟨(m.alloc (.cells #[.int .i64 3, .int .i64 7, .int .i64 c, .int .u64 x, .int .u64 v, .bool true] 62)).cell 1, (m.alloc (.cells #[.int .i64 3, .int .i64 7, .int .i64 c, .int .u64 x, .int .u64 v, .bool true] 62)).cell 2⟩⟩
    have hkb : ∀ W', Stay lo hi (W1.alloc (.cells #[.int .i64 0, .int .i64 0, .int .i64 0, .int .u64 0, .int .u64 0, .bool false] 62)).drew W' → ((fun W : World => W.cell? ⟨g, 1, none⟩ = some (.int .i64 c) ∧ W.cell? ⟨g, 2, none⟩ = some (.int .u64 x)) W' ∧ (fun W : World => W.cell? ⟨g, 1, none⟩ = some (.int .i64 c) ∧ W.cell? ⟨g, 2, none⟩ = some (.int .u64 x)) (((((((W'.setCell ⟨W1.heap.size, 0, none⟩ (.int .i64 3)).setCell ⟨W1.heap.size, 1, none⟩ (.int .i64 7)).setCell ⟨W1.heap.size, 2, none⟩ (.int .i64 c)).setCell ⟨W1.heap.size, 3, none⟩ (.int .u64 x)).setCell ⟨W1.heap.size, 4, none⟩ (.int .u64 v)).setCell ⟨W1.heap.size, 5, none⟩ (.bool true))) ∧ Mem W' W1.heap.size 62 #[.int .i64 0, .int .i64 0, .int .i64 0, .int .u64 0, .int .u64 0, .bool false]) := fun W' hS => by
      have hsz : (W1.alloc (.cells #[.int .i64 0, .int .i64 0, .int .i64 0, .int .u64 0, .int .u64 0, .bool false] 62)).drew.heap.size = W1.heap.size + 1 := size_new _ _
      have m := Mem.of_eq ((G1.out.alloc (.cells #[.int .i64 0, .int .i64 0, .int .i64 0, .int .u64 0, .int .u64 0, .bool false] 62)).drewN 1) (hS.block g (by omega) hg)
      have z0 : Mem W' W1.heap.size 62 #[.int .i64 0, .int .i64 0, .int .i64 0, .int .u64 0, .int .u64 0, .bool false] := Mem.of_eq ((Mem.new W1 62 #[.int .i64 0, .int .i64 0, .int .i64 0, .int .u64 0, .int .u64 0, .bool false]).drewN 1) (hS.block W1.heap.size (by omega) (.inr htW))
      have m2 := mem_fr (P := fun x => x = W1.heap.size) m (Fr.of_stay (store6 z0 (.int .i64 3) (.int .i64 7) (.int .i64 c) (.int .u64 x) (.int .u64 v) (.bool true)).2 fun x a c => by omega) (by omega)
      exact ⟨⟨m.cell 1, m.cell 2⟩, ⟨m2.cell 1, m2.cell 2⟩, z0⟩
    go_region_held3 (fun W : World => W.cell? ⟨g, 1, none⟩ = some (.int .i64 c) ∧ W.cell? ⟨g, 2, none⟩ = some (.int .u64 x)) (first | (with_reducible exact hs0) | (with_reducible exact hs1) | (with_reducible assumption)) (first | (go_at_call 93; (with_reducible refine hc.mono ?_); rintro e w2' ⟨rfl, hD, hS⟩; obtain ⟨hk1, hk2, hk3⟩ := hka _ hS) | (go_at_call 93; (with_reducible refine hc2.mono ?_); rintro e w2' ⟨rfl, hD, hS⟩; obtain ⟨hk1, hk2, hk3⟩ := hkb _ hS; have d0 := hk3.cell 0; have d1 := hk3.cell 1; have d2 := hk3.cell 2; have d3 := hk3.cell 3; have d4 := hk3.cell 4; have d5 := hk3.cell 5; have df := hk3.frozen))
    all_goals go_wp2_with fail
    all_goals go_meet
    all_goals first
      | exact ⟨rfl, _, rfl, Lib.hid ((Mem.of_eq (R1.out.drewN 1) (hS.block w.heap.size hrW (.inr htop))).alloc (.cells #[.int .i64 3, .int .i64 7, .int .i64 c, .int .u64 x, .int .u64 v, .bool true] 62)), Lib.hid ((Mem.of_eq (G1.out.drewN 1) (hS.block g hgW hg)).alloc (.cells #[.int .i64 3, .int .i64 7, .int .i64 c, .int .u64 x, .int .u64 v, .bool true] 62)), Lib.hid (hD.alloc (.cells #[.int .i64 3, .int .i64 7, .int .i64 c, .int .u64 x, .int .u64 v, .bool true] 62)), Lib.hid (((F1.out.drewN 1).trans (Fr.of_stay hS fun x a c => .inl ⟨a, c⟩)).alloc (.cells #[.int .i64 3, .int .i64 7, .int .i64 c, .int .u64 x, .int .u64 v, .bool true] 62)), Lib.hid (Mem.new w2' 62 #[.int .i64 3, .int .i64 7, .int .i64 c, .int .u64 x, .int .u64 v, .bool true]), hD.top, Nat.lt_of_lt_of_le hgW hS.size, Nat.lt_of_lt_of_le hrW hS.size⟩
      | (have hsz : (W1.alloc (.cells #[.int .i64 0, .int .i64 0, .int .i64 0, .int .u64 0, .int .u64 0, .bool false] 62)).drew.heap.size = W1.heap.size + 1 := size_new _ _
         have S6 := (store6 hk3 (.int .i64 3) (.int .i64 7) (.int .i64 c) (.int .u64 x) (.int .u64 v) (.bool true))
         have F6 : Fr (fun x => x = W1.heap.size) w2' _ := Fr.of_stay S6.2 fun x a c => by omega
         have F7 := (((F1.out.alloc (.cells #[.int .i64 0, .int .i64 0, .int .i64 0, .int .u64 0, .int .u64 0, .bool false] 62)).drewN 1).trans (Fr.of_stay hS fun x a c => .inl ⟨a, c⟩))
         exact ⟨rfl, _, rfl, Lib.hid (mem_fr (Mem.of_eq ((R1.out.alloc (.cells #[.int .i64 0, .int .i64 0, .int .i64 0, .int .u64 0, .int .u64 0, .bool false] 62)).drewN 1) (hS.block w.heap.size (by omega) (.inr htop))) F6 (by omega)), Lib.hid (mem_fr (Mem.of_eq ((G1.out.alloc (.cells #[.int .i64 0, .int .i64 0, .int .i64 0, .int .u64 0, .int .u64 0, .bool false] 62)).drewN 1) (hS.block g (by omega) hg)) F6 (by omega)), Lib.hid (hD.fr F6 fun x a c => by omega), Lib.hid (F7.then F6 fun x a c => by omega), Lib.hid S6.1, htW, hgW, hrW⟩)
  obtain ⟨rfl, ga, rfl, R2, G2, D2, F2, HA2, hgat, hgag, hgaw⟩ := hcut
  clear g1_0 g1_1 g1_2 g1_3 g1_4 g1_z R1 G1 D1 F1
  have g2_0 := Mem.cell G2.out 0
  have g2_1 := Mem.cell G2.out 1
  have g2_2 := Mem.cell G2.out 2
  have g2_3 := Mem.cell G2.out 3
  have g2_4 := Mem.cell G2.out 4
  have g2_z := G2.out.frozen
  have a2_0 := Mem.cell HA2.out 0
  have a2_1 := Mem.cell HA2.out 1
  have a2_2 := Mem.cell HA2.out 2
  have a2_3 := Mem.cell HA2.out 3
  have a2_4 := Mem.cell HA2.out 4
  have a2_5 := Mem.cell HA2.out 5
  simp at g2_0 g2_1 g2_2 g2_3 g2_4 a2_0 a2_1 a2_2 a2_3 a2_4 a2_5
  go_upto_region 17 with (fail)
  go_upto_region 18 with (fail)
  have G3 : Hid (Mem (wc.setCell ⟨g, 0, none⟩ (.int .i64 0)) g 148 #[.int .i64 0, .int .i64 c, .int .u64 x, .int .i64 n, .int .i64 bl]) := Lib.hid (by have := G2.out.set_ 0 (.int .i64 0); simpa using this)
  have R3 := Lib.hid (R2.out.far (a := ⟨g, 0, none⟩) (by show w.heap.size ≠ g; omega) (.int .i64 0))
  have D3 := Lib.hid (D2.out.set_ ⟨g, 0, none⟩ hg (.int .i64 0))
  have F3 := Lib.hid (F2.out.set_ ⟨g, 0, none⟩ (.inl (.inr rfl)) (.int .i64 0))
  have HA3 := Lib.hid (HA2.out.far (a := ⟨g, 0, none⟩) (by show ga ≠ g; omega) (.int .i64 0))
  obtain ⟨W3, hW⟩ : ∃ W', wc.setCell ⟨g, 0, none⟩ (.int .i64 0) = W' := ⟨_, rfl⟩
  rw [hW] at R3 G3 D3 F3 HA3
  first | rw [hW] | skip
  clear hW
  clear g2_0 g2_1 g2_2 g2_3 g2_4 a2_0 a2_1 a2_2 a2_3 a2_4 a2_5 g2_z R2 G2 D2 F2 HA2
  have g3_0 := Mem.cell G3.out 0
  have g3_1 := Mem.cell G3.out 1
  have g3_2 := Mem.cell G3.out 2
  have g3_3 := Mem.cell G3.out 3
  have g3_4 := Mem.cell G3.out 4
  have g3_z := G3.out.frozen
  have a3_0 := Mem.cell HA3.out 0
  have a3_1 := Mem.cell HA3.out 1
  have a3_2 := Mem.cell HA3.out 2
  have a3_3 := Mem.cell HA3.out 3
  have a3_4 := Mem.cell HA3.out 4
  have a3_5 := Mem.cell HA3.out 5
  simp at g3_0 g3_1 g3_2 g3_3 g3_4 a3_0 a3_1 a3_2 a3_3 a3_4 a3_5
  go_upto_region 20 with (fail)
  have G4 : Hid (Mem (W3.setCell ⟨g, 0, none⟩ (.int .i64 3)) g 148 #[.int .i64 3, .int .i64 c, .int .u64 x, .int .i64 n, .int .i64 bl]) := Lib.hid (by have := G3.out.set_ 0 (.int .i64 3); simpa using this)
  have R4 := Lib.hid (R3.out.far (a := ⟨g, 0, none⟩) (by show w.heap.size ≠ g; omega) (.int .i64 3))
  have D4 := Lib.hid (D3.out.set_ ⟨g, 0, none⟩ hg (.int .i64 3))
  have F4 := Lib.hid (F3.out.set_ ⟨g, 0, none⟩ (.inl (.inr rfl)) (.int .i64 3))
  have HA4 := Lib.hid (HA3.out.far (a := ⟨g, 0, none⟩) (by show ga ≠ g; omega) (.int .i64 3))
  obtain ⟨W4, hW⟩ : ∃ W', W3.setCell ⟨g, 0, none⟩ (.int .i64 3) = W' := ⟨_, rfl⟩
  rw [hW] at R4 G4 D4 F4 HA4
  first | rw [hW] | skip
  clear hW
  clear g3_0 g3_1 g3_2 g3_3 g3_4 a3_0 a3_1 a3_2 a3_3 a3_4 a3_5 g3_z R3 G3 D3 F3 HA3
  have g4_0 := Mem.cell G4.out 0
  have g4_1 := Mem.cell G4.out 1
  have g4_2 := Mem.cell G4.out 2
  have g4_3 := Mem.cell G4.out 3
  have g4_4 := Mem.cell G4.out 4
  have g4_z := G4.out.frozen
  have a4_0 := Mem.cell HA4.out 0
  have a4_1 := Mem.cell HA4.out 1
  have a4_2 := Mem.cell HA4.out 2
  have a4_3 := Mem.cell HA4.out 3
  have a4_4 := Mem.cell HA4.out 4
  have a4_5 := Mem.cell HA4.out 5
  simp at g4_0 g4_1 g4_2 g4_3 g4_4 a4_0 a4_1 a4_2 a4_3 a4_4 a4_5
  go_upto_region 21 with ((go_at_call 91; (with_reducible refine (w_top x x0 x1 _).mono ?_); rintro e w9 ⟨rfl, rfl⟩))
  have G5 : Hid (Mem (W4.setCell ⟨g, 4, none⟩ (.int .i64 (x % 65536 - 1))) g 148 #[.int .i64 3, .int .i64 c, .int .u64 x, .int .i64 n, .int .i64 (x % 65536 - 1)]) := Lib.hid (by have := G4.out.set_ 4 (.int .i64 (x % 65536 - 1)); simpa using this)
  have R5 := Lib.hid (R4.out.far (a := ⟨g, 4, none⟩) (by show w.heap.size ≠ g; omega) (.int .i64 (x % 65536 - 1)))
  have D5 := Lib.hid (D4.out.set_ ⟨g, 4, none⟩ hg (.int .i64 (x % 65536 - 1)))
  have F5 := Lib.hid (F4.out.set_ ⟨g, 4, none⟩ (.inl (.inr rfl)) (.int .i64 (x % 65536 - 1)))
  have HA5 := Lib.hid (HA4.out.far (a := ⟨g, 4, none⟩) (by show ga ≠ g; omega) (.int .i64 (x % 65536 - 1)))
  obtain ⟨W5, hW⟩ : ∃ W', W4.setCell ⟨g, 4, none⟩ (.int .i64 (x % 65536 - 1)) = W' := ⟨_, rfl⟩
  rw [hW] at R5 G5 D5 F5 HA5
  first | rw [hW] | skip
  clear hW
  clear g4_0 g4_1 g4_2 g4_3 g4_4 a4_0 a4_1 a4_2 a4_3 a4_4 a4_5 g4_z R4 G4 D4 F4 HA4
  have g5_0 := Mem.cell G5.out 0
  have g5_1 := Mem.cell G5.out 1
  have g5_2 := Mem.cell G5.out 2
  have g5_3 := Mem.cell G5.out 3
  have g5_4 := Mem.cell G5.out 4
  have g5_z := G5.out.frozen
  have a5_0 := Mem.cell HA5.out 0
  have a5_1 := Mem.cell HA5.out 1
  have a5_2 := Mem.cell HA5.out 2
  have a5_3 := Mem.cell HA5.out 3
  have a5_4 := Mem.cell HA5.out 4
  have a5_5 := Mem.cell HA5.out 5
  simp at g5_0 g5_1 g5_2 g5_3 g5_4 a5_0 a5_1 a5_2 a5_3 a5_4 a5_5
  have r0_0 := Mem.cell R5.out 0
  have r0_1 := Mem.cell R5.out 1
  have r0_2 := Mem.cell R5.out 2
  have r0_3 := Mem.cell R5.out 3
  have r0_4 := Mem.cell R5.out 4
  have r0_5 := Mem.cell R5.out 5
  have r0_z := R5.out.frozen
  go_wp2
  obtain ⟨M5, S5⟩ := store6 R5.out (.int .i64 3) (.int .i64 7) (.int .i64 c) (.int .u64 x) (.int .u64 v) (.bool true)
  have D5 := D5.out.fr (P := fun x => x = w.heap.size) (Fr.of_stay S5 fun x a c => by omega) fun x a c => by omega
  have G5 := mem_fr (P := fun x => x = w.heap.size) G5.out (Fr.of_stay S5 fun x a c => by omega) (by omega)
  have F5 := Fr.then (Q := fun x => x = w.heap.size) F5.out (Fr.of_stay S5 fun x a c => by omega) fun x a c => by omega
  obtain ⟨V, hV⟩ : ∃ V, ((((((W5.setCell ⟨w.heap.size, 0, none⟩ (.int .i64 3)).setCell ⟨w.heap.size, 1, none⟩ (.int .i64 7)).setCell ⟨w.heap.size, 2, none⟩ (.int .i64 c)).setCell ⟨w.heap.size, 3, none⟩ (.int .u64 x)).setCell ⟨w.heap.size, 4, none⟩ (.int .u64 v)).setCell ⟨w.heap.size, 5, none⟩ (.bool true)) = V := ⟨_, rfl⟩
  rw [hV] at M5 D5 F5 G5 ⊢
  refine bodyPost_ret (v := .agg #[.int .i64 3, .int .i64 7, .int .i64 c, .int .u64 x, .int .u64 v, .bool true]) (results_cell_row rfl _ _ w.heap.size 62 #[.int .i64 3, .int .i64 7, .int .i64 c, .int .u64 x, .int .u64 v, .bool true] (0, 0) _ (by simp) M5 Try.underlying62 rfl (by kernel_rfl)) rfl ⟨rfl, D5, G5, F5⟩

theorem p_take_no {lo hi b rb : Nat} {w : World} {q : Cfg} {A B : Int → List Int} (h : Duo lo hi w b rb q A B) {g : Nat} (hg : g < lo ∨ hi ≤ g) (x n bl : Int) (x0 : 0 ≤ x) (x1 : x ≤ 18446744073709551615) (n0 : -1 ≤ n) (n1 : n < 64) (c : Nat) (hl : c < (A 7).length) (z : Int) (hz : (A 7).getD c 0 = z) (v : Int) (hv : (x / 65536 + 1) % 281474976710656 * 65536 + (n + 1) = v) (he : ¬ z = x) (M : Mem w g 148 #[.int .i64 2, .int .i64 c, .int .u64 x, .int .i64 n, .int .i64 bl]) : Calls Try.prog 38 #[.pointer (some ⟨g, 0, none⟩), .pointer (some ⟨b, 0, none⟩)] w fun e w' => e = .returned (accV 3 7 c z z false) ∧ Duo lo hi w' b rb q (upd A 7 c z) B ∧ Mem w' g 148 #[.int .i64 0, .int .i64 c, .int .u64 x, .int .i64 n, .int .i64 bl] ∧ Fr (PG lo hi g) w w' := by
  have htop := h.top
  have R0 := Lib.hid (Mem.new w 62 #[.int .i64 0, .int .i64 0, .int .i64 0, .int .u64 0, .int .u64 0, .bool false])
  have G0 := Lib.hid (M.alloc (.cells #[.int .i64 0, .int .i64 0, .int .i64 0, .int .u64 0, .int .u64 0, .bool false] 62))
  have D0 := Lib.hid (h.alloc (.cells #[.int .i64 0, .int .i64 0, .int .i64 0, .int .u64 0, .int .u64 0, .bool false] 62))
  have F0 := Lib.hid ((Fr.refl (PG lo hi g) w).alloc (.cells #[.int .i64 0, .int .i64 0, .int .i64 0, .int .u64 0, .int .u64 0, .bool false] 62))
  have hgw := M.lt
  have hrw := R0.out.lt
  clear h M
  go_enter Try.func38, Try.ntmps38
  go_upto_region 1 with (fail)
  obtain ⟨W0, hW⟩ : ∃ W', w.alloc (.cells #[.int .i64 0, .int .i64 0, .int .i64 0, .int .u64 0, .int .u64 0, .bool false] 62) = W' := ⟨_, rfl⟩
  rw [hW] at R0 G0 D0 F0
  first | rw [hW] | skip
  clear hW
  have g0_0 := Mem.cell G0.out 0
  have g0_1 := Mem.cell G0.out 1
  have g0_2 := Mem.cell G0.out 2
  have g0_3 := Mem.cell G0.out 3
  have g0_4 := Mem.cell G0.out 4
  have g0_z := G0.out.frozen
  simp at g0_0 g0_1 g0_2 g0_3 g0_4
  go_upto_region 15 with (fail)
  have R1 := Lib.hid (R0.out.drewN 1)
  have G1 := Lib.hid (G0.out.drewN 1)
  have D1 := Lib.hid (D0.out.drewN 1)
  have F1 := Lib.hid (F0.out.drewN 1)
  have hs0 : (fun W : World => W.cell? ⟨g, 2, none⟩ = some (.int .u64 x) ∧ W.cell? ⟨g, 3, none⟩ = some (.int .i64 n)) (W0.drew) := ⟨g0_2, g0_3⟩
  go_region_held3 (fun W : World => W.cell? ⟨g, 2, none⟩ = some (.int .u64 x) ∧ W.cell? ⟨g, 3, none⟩ = some (.int .i64 n)) (first | exact hs0 | assumption) (first | (go_at_call 92; (with_reducible refine (w_bump x n x0 x1 n0 n1 _).mono ?_); rintro e w9 ⟨rfl, rfl⟩))
  clear hs0
  rw [show W0.drew = W0.drewN 1 from rfl]
  obtain ⟨W1, hW⟩ : ∃ W', W0.drewN 1 = W' := ⟨_, rfl⟩
  rw [hW] at R1 G1 D1 F1
  first | rw [hW] | skip
  clear hW
  clear g0_0 g0_1 g0_2 g0_3 g0_4 g0_z R0 G0 D0 F0
  have g1_0 := Mem.cell G1.out 0
  have g1_1 := Mem.cell G1.out 1
  have g1_2 := Mem.cell G1.out 2
  have g1_3 := Mem.cell G1.out 3
  have g1_4 := Mem.cell G1.out 4
  have g1_z := G1.out.frozen
  simp at g1_0 g1_1 g1_2 g1_3 g1_4
  go_upto_region 16 with (fail)
  first | rw [hv] | skip
  go_cut [9, 10] (fun pv m0v wc => m0v = .bool false ∧ ∃ ga : Nat, pv = .pointer (some ⟨ga, 0, none⟩) ∧ Hid (Mem wc w.heap.size 62 #[.int .i64 0, .int .i64 0, .int .i64 0, .int .u64 0, .int .u64 0, .bool false]) ∧ Hid (Mem wc g 148 #[.int .i64 2, .int .i64 c, .int .u64 x, .int .i64 n, .int .i64 bl]) ∧ Hid (Duo lo hi wc b rb q (upd A 7 c z) B) ∧ Hid (Fr (PG lo hi g) w wc) ∧ Hid (Mem wc ga 62 #[.int .i64 3, .int .i64 7, .int .i64 c, .int .u64 z, .int .u64 z, .bool false]) ∧ hi ≤ ga ∧ g < ga ∧ w.heap.size < ga)
  case first =>
    have hgW : g < W1.heap.size := G1.out.lt
    have hrW : w.heap.size < W1.heap.size := R1.out.lt
    have htW : hi ≤ W1.heap.size := D1.out.top
    have hs0 : (fun W : World => W.cell? ⟨g, 1, none⟩ = some (.int .i64 c) ∧ W.cell? ⟨g, 2, none⟩ = some (.int .u64 x)) (W1.drew) := ⟨g1_1, g1_2⟩
    have hs1 : (fun W : World => W.cell? ⟨g, 1, none⟩ = some (.int .i64 c) ∧ W.cell? ⟨g, 2, none⟩ = some (.int .u64 x)) ((W1.alloc (.cells #[.int .i64 0, .int .i64 0, .int .i64 0, .int .u64 0, .int .u64 0, .bool false] 62)).drew) := ⟨((G1.out.alloc (.cells #[.int .i64 0, .int .i64 0, .int .i64 0, .int .u64 0, .int .u64 0, .bool false] 62)).drewN 1).cell 1, ((G1.out.alloc (.cells #[.int .i64 0, .int .i64 0, .int .i64 0, .int .u64 0, .int .u64 0, .bool false] 62)).drewN 1).cell 2⟩
    have hc := f_swap (D1.out.drewN 1) c hl z hz x v z false (Lib.hid (by simp [he])) (Lib.hid (by simp [he]))
    rw [show W1.drewN 1 = W1.drew from rfl] at hc
    have hc2 := f_swap ((D1.out.alloc (.cells #[.int .i64 0, .int .i64 0, .int .i64 0, .int .u64 0, .int .u64 0, .bool false] 62)).drewN 1) c hl z hz x v z false (Lib.hid (by simp [he])) (Lib.hid (by simp [he]))
    rw [show (W1.alloc (.cells #[.int .i64 0, .int .i64 0, .int .i64 0, .int .u64 0, .int .u64 0, .bool false] 62)).drewN 1 = (W1.alloc (.cells #[.int .i64 0, .int .i64 0, .int .i64 0, .int .u64 0, .int .u64 0, .bool false] 62)).drew from rfl] at hc2
    have hka : ∀ W', Stay lo hi W1.drew W' → ((fun W : World => W.cell? ⟨g, 1, none⟩ = some (.int .i64 c) ∧ W.cell? ⟨g, 2, none⟩ = some (.int .u64 x)) W' ∧ (fun W : World => W.cell? ⟨g, 1, none⟩ = some (.int .i64 c) ∧ W.cell? ⟨g, 2, none⟩ = some (.int .u64 x)) (W'.alloc (.cells #[.int .i64 0, .int .i64 0, .int .i64 0, .int .u64 0, .int .u64 0, .bool false] 62)) ∧ (fun W : World => W.cell? ⟨g, 1, none⟩ = some (.int .i64 c) ∧ W.cell? ⟨g, 2, none⟩ = some (.int .u64 x)) (W'.alloc (.cells #[.int .i64 3, .int .i64 7, .int .i64 c, .int .u64 z, .int .u64 z, .bool false] 62))) := fun W' hS => by
      have m := Mem.of_eq (G1.out.drewN 1) (hS.block g hgW hg)
      exact ⟨⟨m.cell 1, m.cell 2⟩, ⟨(m.alloc (.cells #[.int .i64 0, .int .i64 0, .int .i64 0, .int .u64 0, .int .u64 0, .bool false] 62)).cell 1, (m.alloc (.cells #[.int .i64 0, .int .i64 0, .int .i64 0, .int .u64 0, .int .u64 0, .bool false] 62)).cell 2⟩, ⟨(m.alloc (.cells #[.int .i64 3, .int .i64 7, .int .i64 c, .int .u64 z, .int .u64 z, .bool false] 62)).cell 1, (m.alloc (.cells #[.int .i64 3, .int .i64 7, .int .i64 c, .int .u64 z, .int .u64 z, .bool false] 62)).cell 2⟩⟩
    have hkb : ∀ W', Stay lo hi (W1.alloc (.cells #[.int .i64 0, .int .i64 0, .int .i64 0, .int .u64 0, .int .u64 0, .bool false] 62)).drew W' → ((fun W : World => W.cell? ⟨g, 1, none⟩ = some (.int .i64 c) ∧ W.cell? ⟨g, 2, none⟩ = some (.int .u64 x)) W' ∧ (fun W : World => W.cell? ⟨g, 1, none⟩ = some (.int .i64 c) ∧ W.cell? ⟨g, 2, none⟩ = some (.int .u64 x)) (((((((W'.setCell ⟨W1.heap.size, 0, none⟩ (.int .i64 3)).setCell ⟨W1.heap.size, 1, none⟩ (.int .i64 7)).setCell ⟨W1.heap.size, 2, none⟩ (.int .i64 c)).setCell ⟨W1.heap.size, 3, none⟩ (.int .u64 z)).setCell ⟨W1.heap.size, 4, none⟩ (.int .u64 z)).setCell ⟨W1.heap.size, 5, none⟩ (.bool false))) ∧ Mem W' W1.heap.size 62 #[.int .i64 0, .int .i64 0, .int .i64 0, .int .u64 0, .int .u64 0, .bool false]) := fun W' hS => by
      have hsz : (W1.alloc (.cells #[.int .i64 0, .int .i64 0, .int .i64 0, .int .u64 0, .int .u64 0, .bool false] 62)).drew.heap.size = W1.heap.size + 1 := size_new _ _
      have m := Mem.of_eq ((G1.out.alloc (.cells #[.int .i64 0, .int .i64 0, .int .i64 0, .int .u64 0, .int .u64 0, .bool false] 62)).drewN 1) (hS.block g (by omega) hg)
      have z0 : Mem W' W1.heap.size 62 #[.int .i64 0, .int .i64 0, .int .i64 0, .int .u64 0, .int .u64 0, .bool false] := Mem.of_eq ((Mem.new W1 62 #[.int .i64 0, .int .i64 0, .int .i64 0, .int .u64 0, .int .u64 0, .bool false]).drewN 1) (hS.block W1.heap.size (by omega) (.inr htW))
      have m2 := mem_fr (P := fun x => x = W1.heap.size) m (Fr.of_stay (store6 z0 (.int .i64 3) (.int .i64 7) (.int .i64 c) (.int .u64 z) (.int .u64 z) (.bool false)).2 fun x a c => by omega) (by omega)
      exact ⟨⟨m.cell 1, m.cell 2⟩, ⟨m2.cell 1, m2.cell 2⟩, z0⟩
    go_region_held3 (fun W : World => W.cell? ⟨g, 1, none⟩ = some (.int .i64 c) ∧ W.cell? ⟨g, 2, none⟩ = some (.int .u64 x)) (first | (with_reducible exact hs0) | (with_reducible exact hs1) | (with_reducible assumption)) (first | (go_at_call 93; (with_reducible refine hc.mono ?_); rintro e w2' ⟨rfl, hD, hS⟩; obtain ⟨hk1, hk2, hk3⟩ := hka _ hS) | (go_at_call 93; (with_reducible refine hc2.mono ?_); rintro e w2' ⟨rfl, hD, hS⟩; obtain ⟨hk1, hk2, hk3⟩ := hkb _ hS; have d0 := hk3.cell 0; have d1 := hk3.cell 1; have d2 := hk3.cell 2; have d3 := hk3.cell 3; have d4 := hk3.cell 4; have d5 := hk3.cell 5; have df := hk3.frozen))
    all_goals go_wp2_with fail
    all_goals go_meet
    all_goals first
      | exact ⟨rfl, _, rfl, Lib.hid ((Mem.of_eq (R1.out.drewN 1) (hS.block w.heap.size hrW (.inr htop))).alloc (.cells #[.int .i64 3, .int .i64 7, .int .i64 c, .int .u64 z, .int .u64 z, .bool false] 62)), Lib.hid ((Mem.of_eq (G1.out.drewN 1) (hS.block g hgW hg)).alloc (.cells #[.int .i64 3, .int .i64 7, .int .i64 c, .int .u64 z, .int .u64 z, .bool false] 62)), Lib.hid (hD.alloc (.cells #[.int .i64 3, .int .i64 7, .int .i64 c, .int .u64 z, .int .u64 z, .bool false] 62)), Lib.hid (((F1.out.drewN 1).trans (Fr.of_stay hS fun x a c => .inl ⟨a, c⟩)).alloc (.cells #[.int .i64 3, .int .i64 7, .int .i64 c, .int .u64 z, .int .u64 z, .bool false] 62)), Lib.hid (Mem.new w2' 62 #[.int .i64 3, .int .i64 7, .int .i64 c, .int .u64 z, .int .u64 z, .bool false]), hD.top, Nat.lt_of_lt_of_le hgW hS.size, Nat.lt_of_lt_of_le hrW hS.size⟩
      | (have hsz : (W1.alloc (.cells #[.int .i64 0, .int .i64 0, .int .i64 0, .int .u64 0, .int .u64 0, .bool false] 62)).drew.heap.size = W1.heap.size + 1 := size_new _ _
         have S6 := (store6 hk3 (.int .i64 3) (.int .i64 7) (.int .i64 c) (.int .u64 z) (.int .u64 z) (.bool false))
         have F6 : Fr (fun x => x = W1.heap.size) w2' _ := Fr.of_stay S6.2 fun x a c => by omega
         have F7 := (((F1.out.alloc (.cells #[.int .i64 0, .int .i64 0, .int .i64 0, .int .u64 0, .int .u64 0, .bool false] 62)).drewN 1).trans (Fr.of_stay hS fun x a c => .inl ⟨a, c⟩))
         exact ⟨rfl, _, rfl, Lib.hid (mem_fr (Mem.of_eq ((R1.out.alloc (.cells #[.int .i64 0, .int .i64 0, .int .i64 0, .int .u64 0, .int .u64 0, .bool false] 62)).drewN 1) (hS.block w.heap.size (by omega) (.inr htop))) F6 (by omega)), Lib.hid (mem_fr (Mem.of_eq ((G1.out.alloc (.cells #[.int .i64 0, .int .i64 0, .int .i64 0, .int .u64 0, .int .u64 0, .bool false] 62)).drewN 1) (hS.block g (by omega) hg)) F6 (by omega)), Lib.hid (hD.fr F6 fun x a c => by omega), Lib.hid (F7.then F6 fun x a c => by omega), Lib.hid S6.1, htW, hgW, hrW⟩)
  obtain ⟨rfl, ga, rfl, R2, G2, D2, F2, HA2, hgat, hgag, hgaw⟩ := hcut
  clear g1_0 g1_1 g1_2 g1_3 g1_4 g1_z R1 G1 D1 F1
  have g2_0 := Mem.cell G2.out 0
  have g2_1 := Mem.cell G2.out 1
  have g2_2 := Mem.cell G2.out 2
  have g2_3 := Mem.cell G2.out 3
  have g2_4 := Mem.cell G2.out 4
  have g2_z := G2.out.frozen
  have a2_0 := Mem.cell HA2.out 0
  have a2_1 := Mem.cell HA2.out 1
  have a2_2 := Mem.cell HA2.out 2
  have a2_3 := Mem.cell HA2.out 3
  have a2_4 := Mem.cell HA2.out 4
  have a2_5 := Mem.cell HA2.out 5
  simp at g2_0 g2_1 g2_2 g2_3 g2_4 a2_0 a2_1 a2_2 a2_3 a2_4 a2_5
  go_upto_region 17 with (fail)
  go_upto_region 18 with (fail)
  have G3 : Hid (Mem (wc.setCell ⟨g, 0, none⟩ (.int .i64 0)) g 148 #[.int .i64 0, .int .i64 c, .int .u64 x, .int .i64 n, .int .i64 bl]) := Lib.hid (by have := G2.out.set_ 0 (.int .i64 0); simpa using this)
  have R3 := Lib.hid (R2.out.far (a := ⟨g, 0, none⟩) (by show w.heap.size ≠ g; omega) (.int .i64 0))
  have D3 := Lib.hid (D2.out.set_ ⟨g, 0, none⟩ hg (.int .i64 0))
  have F3 := Lib.hid (F2.out.set_ ⟨g, 0, none⟩ (.inl (.inr rfl)) (.int .i64 0))
  have HA3 := Lib.hid (HA2.out.far (a := ⟨g, 0, none⟩) (by show ga ≠ g; omega) (.int .i64 0))
  obtain ⟨W3, hW⟩ : ∃ W', wc.setCell ⟨g, 0, none⟩ (.int .i64 0) = W' := ⟨_, rfl⟩
  rw [hW] at R3 G3 D3 F3 HA3
  first | rw [hW] | skip
  clear hW
  clear g2_0 g2_1 g2_2 g2_3 g2_4 a2_0 a2_1 a2_2 a2_3 a2_4 a2_5 g2_z R2 G2 D2 F2 HA2
  have g3_0 := Mem.cell G3.out 0
  have g3_1 := Mem.cell G3.out 1
  have g3_2 := Mem.cell G3.out 2
  have g3_3 := Mem.cell G3.out 3
  have g3_4 := Mem.cell G3.out 4
  have g3_z := G3.out.frozen
  have a3_0 := Mem.cell HA3.out 0
  have a3_1 := Mem.cell HA3.out 1
  have a3_2 := Mem.cell HA3.out 2
  have a3_3 := Mem.cell HA3.out 3
  have a3_4 := Mem.cell HA3.out 4
  have a3_5 := Mem.cell HA3.out 5
  simp at g3_0 g3_1 g3_2 g3_3 g3_4 a3_0 a3_1 a3_2 a3_3 a3_4 a3_5
  have r0_0 := Mem.cell R3.out 0
  have r0_1 := Mem.cell R3.out 1
  have r0_2 := Mem.cell R3.out 2
  have r0_3 := Mem.cell R3.out 3
  have r0_4 := Mem.cell R3.out 4
  have r0_5 := Mem.cell R3.out 5
  have r0_z := R3.out.frozen
  go_wp2
  obtain ⟨M5, S5⟩ := store6 R3.out (.int .i64 3) (.int .i64 7) (.int .i64 c) (.int .u64 z) (.int .u64 z) (.bool false)
  have D5 := D3.out.fr (P := fun x => x = w.heap.size) (Fr.of_stay S5 fun x a c => by omega) fun x a c => by omega
  have G5 := mem_fr (P := fun x => x = w.heap.size) G3.out (Fr.of_stay S5 fun x a c => by omega) (by omega)
  have F5 := Fr.then (Q := fun x => x = w.heap.size) F3.out (Fr.of_stay S5 fun x a c => by omega) fun x a c => by omega
  obtain ⟨V, hV⟩ : ∃ V, ((((((W3.setCell ⟨w.heap.size, 0, none⟩ (.int .i64 3)).setCell ⟨w.heap.size, 1, none⟩ (.int .i64 7)).setCell ⟨w.heap.size, 2, none⟩ (.int .i64 c)).setCell ⟨w.heap.size, 3, none⟩ (.int .u64 z)).setCell ⟨w.heap.size, 4, none⟩ (.int .u64 z)).setCell ⟨w.heap.size, 5, none⟩ (.bool false)) = V := ⟨_, rfl⟩
  rw [hV] at M5 D5 F5 G5 ⊢
  refine bodyPost_ret (v := .agg #[.int .i64 3, .int .i64 7, .int .i64 c, .int .u64 z, .int .u64 z, .bool false]) (results_cell_row rfl _ _ w.heap.size 62 #[.int .i64 3, .int .i64 7, .int .i64 c, .int .u64 z, .int .u64 z, .bool false] (0, 0) _ (by simp) M5 Try.underlying62 rfl (by kernel_rfl)) rfl ⟨rfl, D5, G5, F5⟩

theorem p_over {lo hi b rb : Nat} {w : World} {q : Cfg} {A B : Int → List Int} (h : Duo lo hi w b rb q A B) {g : Nat} (hg : g < lo ∨ hi ≤ g) (c x n bl : Int) (M : Mem w g 148 #[.int .i64 3, .int .i64 c, .int .u64 x, .int .i64 n, .int .i64 bl]) : Calls Try.prog 38 #[.pointer (some ⟨g, 0, none⟩), .pointer (some ⟨b, 0, none⟩)] w fun e w' => e = .returned (accV 0 0 0 0 0 false) ∧ Duo lo hi w' b rb q A B ∧ Mem w' g 148 #[.int .i64 3, .int .i64 c, .int .u64 x, .int .i64 n, .int .i64 bl] ∧ Fr (PG lo hi g) w w' := by
  have htop := h.top
  have R0 := Lib.hid (Mem.new w 62 #[.int .i64 0, .int .i64 0, .int .i64 0, .int .u64 0, .int .u64 0, .bool false])
  have G0 := Lib.hid (M.alloc (.cells #[.int .i64 0, .int .i64 0, .int .i64 0, .int .u64 0, .int .u64 0, .bool false] 62))
  have D0 := Lib.hid (h.alloc (.cells #[.int .i64 0, .int .i64 0, .int .i64 0, .int .u64 0, .int .u64 0, .bool false] 62))
  have F0 := Lib.hid ((Fr.refl (PG lo hi g) w).alloc (.cells #[.int .i64 0, .int .i64 0, .int .i64 0, .int .u64 0, .int .u64 0, .bool false] 62))
  have hgw := M.lt
  have hrw := R0.out.lt
  clear h M
  go_enter Try.func38, Try.ntmps38
  go_upto_region 1 with (fail)
  obtain ⟨W0, hW⟩ : ∃ W', w.alloc (.cells #[.int .i64 0, .int .i64 0, .int .i64 0, .int .u64 0, .int .u64 0, .bool false] 62) = W' := ⟨_, rfl⟩
  rw [hW] at R0 G0 D0 F0
  first | rw [hW] | skip
  clear hW
  have g0_0 := Mem.cell G0.out 0
  have g0_1 := Mem.cell G0.out 1
  have g0_2 := Mem.cell G0.out 2
  have g0_3 := Mem.cell G0.out 3
  have g0_4 := Mem.cell G0.out 4
  have g0_z := G0.out.frozen
  simp at g0_0 g0_1 g0_2 g0_3 g0_4
  have r0_0 := Mem.cell R0.out 0
  have r0_1 := Mem.cell R0.out 1
  have r0_2 := Mem.cell R0.out 2
  have r0_3 := Mem.cell R0.out 3
  have r0_4 := Mem.cell R0.out 4
  have r0_5 := Mem.cell R0.out 5
  have r0_z := R0.out.frozen
  go_wp2
  obtain ⟨M5, S5⟩ := store6 R0.out (.int .i64 0) (.int .i64 0) (.int .i64 0) (.int .u64 0) (.int .u64 0) (.bool false)
  have D5 := D0.out.fr (P := fun x => x = w.heap.size) (Fr.of_stay S5 fun x a c => by omega) fun x a c => by omega
  have G5 := mem_fr (P := fun x => x = w.heap.size) G0.out (Fr.of_stay S5 fun x a c => by omega) (by omega)
  have F5 := Fr.then (Q := fun x => x = w.heap.size) F0.out (Fr.of_stay S5 fun x a c => by omega) fun x a c => by omega
  obtain ⟨V, hV⟩ : ∃ V, ((((((W0.setCell ⟨w.heap.size, 0, none⟩ (.int .i64 0)).setCell ⟨w.heap.size, 1, none⟩ (.int .i64 0)).setCell ⟨w.heap.size, 2, none⟩ (.int .i64 0)).setCell ⟨w.heap.size, 3, none⟩ (.int .u64 0)).setCell ⟨w.heap.size, 4, none⟩ (.int .u64 0)).setCell ⟨w.heap.size, 5, none⟩ (.bool false)) = V := ⟨_, rfl⟩
  rw [hV] at M5 D5 F5 G5 ⊢
  refine bodyPost_ret (v := .agg #[.int .i64 0, .int .i64 0, .int .i64 0, .int .u64 0, .int .u64 0, .bool false]) (results_cell_row rfl _ _ w.heap.size 62 #[.int .i64 0, .int .i64 0, .int .i64 0, .int .u64 0, .int .u64 0, .bool false] (0, 0) _ (by simp) M5 Try.underlying62 rfl (by kernel_rfl)) rfl ⟨rfl, D5, G5, F5⟩

theorem p_done (g : Nat) (st c x n bl : Int) (w : World) (M : Mem w g 148 #[.int .i64 st, .int .i64 c, .int .u64 x, .int .i64 n, .int .i64 bl]) : Calls Try.prog 40 #[.pointer (some ⟨g, 0, none⟩)] w fun e w' => e = .returned (.bool (st == 3)) ∧ w = w' := by
  have c0 := M.cell 0
  simp at c0
  clear M
  go_enter Try.func40, Try.ntmps40
  go_wp2
  go_ret
  exact ⟨rfl, rfl⟩

theorem p_block (g : Nat) (st c x n bl : Int) (w : World) (M : Mem w g 148 #[.int .i64 st, .int .i64 c, .int .u64 x, .int .i64 n, .int .i64 bl]) : Calls Try.prog 41 #[.pointer (some ⟨g, 0, none⟩)] w fun e w' => e = .returned (.int .i64 bl) ∧ w = w' := by
  have c4 := M.cell 4
  simp at c4
  clear M
  go_enter Try.func41, Try.ntmps41
  go_wp2
  go_ret
  exact ⟨rfl, rfl⟩

theorem p_new (c : Int) (w : World) : Calls Try.prog 36 #[.int .i64 c] w fun e w' => e = .returned (.pointer (some ⟨w.heap.size, 0, none⟩)) ∧ w' = w.alloc (.cells #[.int .i64 0, .int .i64 c, .int .u64 0, .int .i64 0, .int .i64 (-1)] 148) := by
  go_enter Try.func36, Try.ntmps36
  go_wp2
  go_ret
  exact ⟨rfl, rfl⟩

theorem u_load {lo hi b rb : Nat} {w : World} {q : Cfg} {A B : Int → List Int} (h : Duo lo hi w b rb q A B) {g : Nat} (hg : g < lo ∨ hi ≤ g) (bk ow : Int) (c : Nat) (hl : c < (A 7).length) (x : Int) (hx : (A 7).getD c 0 = x) (x0 : 0 ≤ x) (x1 : x ≤ 18446744073709551615) (M : Mem w g 146 #[.int .i64 0, .int .i64 c, .int .i64 bk, .int .u64 ow]) : Calls Try.prog 42 #[.pointer (some ⟨g, 0, none⟩), .pointer (some ⟨b, 0, none⟩)] w fun e w' => e = .returned (accV 1 7 c x x true) ∧ Duo lo hi w' b rb q A B ∧ Mem w' g 146 #[.int .i64 1, .int .i64 c, .int .i64 bk, .int .u64 x] ∧ Fr (PG lo hi g) w w' := by
  have htop := h.top
  have R0 := Lib.hid (Mem.new w 62 #[.int .i64 0, .int .i64 0, .int .i64 0, .int .u64 0, .int .u64 0, .bool false])
  have G0 := Lib.hid (M.alloc (.cells #[.int .i64 0, .int .i64 0, .int .i64 0, .int .u64 0, .int .u64 0, .bool false] 62))
  have D0 := Lib.hid (h.alloc (.cells #[.int .i64 0, .int .i64 0, .int .i64 0, .int .u64 0, .int .u64 0, .bool false] 62))
  have F0 := Lib.hid ((Fr.refl (PG lo hi g) w).alloc (.cells #[.int .i64 0, .int .i64 0, .int .i64 0, .int .u64 0, .int .u64 0, .bool false] 62))
  have hgw := M.lt
  have hrw := R0.out.lt
  clear h M
  go_enter Try.func42, Try.ntmps42
  go_upto_region 1 with (fail)
  obtain ⟨W0, hW⟩ : ∃ W', w.alloc (.cells #[.int .i64 0, .int .i64 0, .int .i64 0, .int .u64 0, .int .u64 0, .bool false] 62) = W' := ⟨_, rfl⟩
  rw [hW] at R0 G0 D0 F0
  first | rw [hW] | skip
  clear hW
  have g0_0 := Mem.cell G0.out 0
  have g0_1 := Mem.cell G0.out 1
  have g0_2 := Mem.cell G0.out 2
  have g0_3 := Mem.cell G0.out 3
  have g0_z := G0.out.frozen
  simp at g0_0 g0_1 g0_2 g0_3
  have hc := f_load D0.out 7 (by decide) c hl x hx
  go_upto_region 4 with ((go_at_call 90; refine hc.mono ?_; rintro e w0' ⟨rfl, hD, hS⟩))
  have R1 := Lib.hid ((Mem.of_eq R0.out (hS.block w.heap.size R0.out.lt (.inr htop))).alloc (.cells #[.int .i64 1, .int .i64 7, .int .i64 c, .int .u64 x, .int .u64 x, .bool true] 62))
  have G1 := Lib.hid ((Mem.of_eq G0.out (hS.block g G0.out.lt hg)).alloc (.cells #[.int .i64 1, .int .i64 7, .int .i64 c, .int .u64 x, .int .u64 x, .bool true] 62))
  have D1 := Lib.hid ((hD).alloc (.cells #[.int .i64 1, .int .i64 7, .int .i64 c, .int .u64 x, .int .u64 x, .bool true] 62))
  have F1 := Lib.hid ((F0.out.trans (Fr.of_stay hS fun x a c => .inl ⟨a, c⟩)).alloc (.cells #[.int .i64 1, .int .i64 7, .int .i64 c, .int .u64 x, .int .u64 x, .bool true] 62))
  have HA1 := Lib.hid (Mem.new w0' 62 #[.int .i64 1, .int .i64 7, .int .i64 c, .int .u64 x, .int .u64 x, .bool true])
  have hgat : hi ≤ w0'.heap.size := hD.top
  have hgag : g < w0'.heap.size := Nat.lt_of_lt_of_le G0.out.lt hS.size
  have hgaw : w.heap.size < w0'.heap.size := Nat.lt_of_lt_of_le R0.out.lt hS.size
  obtain ⟨ga, hga⟩ : ∃ ga, w0'.heap.size = ga := ⟨_, rfl⟩
  rw [hga] at HA1 hgat hgaw hgag
  first | rw [hga] | skip
  clear hc hD hS hga
  obtain ⟨W1, hW⟩ : ∃ W', w0'.alloc (.cells #[.int .i64 1, .int .i64 7, .int .i64 c, .int .u64 x, .int .u64 x, .bool true] 62) = W' := ⟨_, rfl⟩
  rw [hW] at R1 G1 D1 F1 HA1
  first | rw [hW] | skip
  clear hW
  clear g0_0 g0_1 g0_2 g0_3 g0_z R0 G0 D0 F0
  have g1_0 := Mem.cell G1.out 0
  have g1_1 := Mem.cell G1.out 1
  have g1_2 := Mem.cell G1.out 2
  have g1_3 := Mem.cell G1.out 3
  have g1_z := G1.out.frozen
  have a1_0 := Mem.cell HA1.out 0
  have a1_1 := Mem.cell HA1.out 1
  have a1_2 := Mem.cell HA1.out 2
  have a1_3 := Mem.cell HA1.out 3
  have a1_4 := Mem.cell HA1.out 4
  have a1_5 := Mem.cell HA1.out 5
  simp at g1_0 g1_1 g1_2 g1_3 a1_0 a1_1 a1_2 a1_3 a1_4 a1_5
  go_upto_region 5 with (fail)
  have G2 : Hid (Mem (W1.setCell ⟨g, 3, none⟩ (.int .u64 x)) g 146 #[.int .i64 0, .int .i64 c, .int .i64 bk, .int .u64 x]) := Lib.hid (by have := G1.out.set_ 3 (.int .u64 x); simpa using this)
  have R2 := Lib.hid (R1.out.far (a := ⟨g, 3, none⟩) (by show w.heap.size ≠ g; omega) (.int .u64 x))
  have D2 := Lib.hid (D1.out.set_ ⟨g, 3, none⟩ hg (.int .u64 x))
  have F2 := Lib.hid (F1.out.set_ ⟨g, 3, none⟩ (.inl (.inr rfl)) (.int .u64 x))
  have HA2 := Lib.hid (HA1.out.far (a := ⟨g, 3, none⟩) (by show ga ≠ g; omega) (.int .u64 x))
  obtain ⟨W2, hW⟩ : ∃ W', W1.setCell ⟨g, 3, none⟩ (.int .u64 x) = W' := ⟨_, rfl⟩
  rw [hW] at R2 G2 D2 F2 HA2
  first | rw [hW] | skip
  clear hW
  clear g1_0 g1_1 g1_2 g1_3 a1_0 a1_1 a1_2 a1_3 a1_4 a1_5 g1_z R1 G1 D1 F1 HA1
  have g2_0 := Mem.cell G2.out 0
  have g2_1 := Mem.cell G2.out 1
  have g2_2 := Mem.cell G2.out 2
  have g2_3 := Mem.cell G2.out 3
  have g2_z := G2.out.frozen
  have a2_0 := Mem.cell HA2.out 0
  have a2_1 := Mem.cell HA2.out 1
  have a2_2 := Mem.cell HA2.out 2
  have a2_3 := Mem.cell HA2.out 3
  have a2_4 := Mem.cell HA2.out 4
  have a2_5 := Mem.cell HA2.out 5
  simp at g2_0 g2_1 g2_2 g2_3 a2_0 a2_1 a2_2 a2_3 a2_4 a2_5
  go_upto_region 6 with (fail)
  have G3 : Hid (Mem (W2.setCell ⟨g, 0, none⟩ (.int .i64 1)) g 146 #[.int .i64 1, .int .i64 c, .int .i64 bk, .int .u64 x]) := Lib.hid (by have := G2.out.set_ 0 (.int .i64 1); simpa using this)
  have R3 := Lib.hid (R2.out.far (a := ⟨g, 0, none⟩) (by show w.heap.size ≠ g; omega) (.int .i64 1))
  have D3 := Lib.hid (D2.out.set_ ⟨g, 0, none⟩ hg (.int .i64 1))
  have F3 := Lib.hid (F2.out.set_ ⟨g, 0, none⟩ (.inl (.inr rfl)) (.int .i64 1))
  have HA3 := Lib.hid (HA2.out.far (a := ⟨g, 0, none⟩) (by show ga ≠ g; omega) (.int .i64 1))
  obtain ⟨W3, hW⟩ : ∃ W', W2.setCell ⟨g, 0, none⟩ (.int .i64 1) = W' := ⟨_, rfl⟩
  rw [hW] at R3 G3 D3 F3 HA3
  first | rw [hW] | skip
  clear hW
  clear g2_0 g2_1 g2_2 g2_3 a2_0 a2_1 a2_2 a2_3 a2_4 a2_5 g2_z R2 G2 D2 F2 HA2
  have g3_0 := Mem.cell G3.out 0
  have g3_1 := Mem.cell G3.out 1
  have g3_2 := Mem.cell G3.out 2
  have g3_3 := Mem.cell G3.out 3
  have g3_z := G3.out.frozen
  have a3_0 := Mem.cell HA3.out 0
  have a3_1 := Mem.cell HA3.out 1
  have a3_2 := Mem.cell HA3.out 2
  have a3_3 := Mem.cell HA3.out 3
  have a3_4 := Mem.cell HA3.out 4
  have a3_5 := Mem.cell HA3.out 5
  simp at g3_0 g3_1 g3_2 g3_3 a3_0 a3_1 a3_2 a3_3 a3_4 a3_5
  have r0_0 := Mem.cell R3.out 0
  have r0_1 := Mem.cell R3.out 1
  have r0_2 := Mem.cell R3.out 2
  have r0_3 := Mem.cell R3.out 3
  have r0_4 := Mem.cell R3.out 4
  have r0_5 := Mem.cell R3.out 5
  have r0_z := R3.out.frozen
  go_wp2
  obtain ⟨M5, S5⟩ := store6 R3.out (.int .i64 1) (.int .i64 7) (.int .i64 c) (.int .u64 x) (.int .u64 x) (.bool true)
  have D5 := D3.out.fr (P := fun x => x = w.heap.size) (Fr.of_stay S5 fun x a c => by omega) fun x a c => by omega
  have G5 := mem_fr (P := fun x => x = w.heap.size) G3.out (Fr.of_stay S5 fun x a c => by omega) (by omega)
  have F5 := Fr.then (Q := fun x => x = w.heap.size) F3.out (Fr.of_stay S5 fun x a c => by omega) fun x a c => by omega
  obtain ⟨V, hV⟩ : ∃ V, ((((((W3.setCell ⟨w.heap.size, 0, none⟩ (.int .i64 1)).setCell ⟨w.heap.size, 1, none⟩ (.int .i64 7)).setCell ⟨w.heap.size, 2, none⟩ (.int .i64 c)).setCell ⟨w.heap.size, 3, none⟩ (.int .u64 x)).setCell ⟨w.heap.size, 4, none⟩ (.int .u64 x)).setCell ⟨w.heap.size, 5, none⟩ (.bool true)) = V := ⟨_, rfl⟩
  rw [hV] at M5 D5 F5 G5 ⊢
  refine bodyPost_ret (v := .agg #[.int .i64 1, .int .i64 7, .int .i64 c, .int .u64 x, .int .u64 x, .bool true]) (results_cell_row rfl _ _ w.heap.size 62 #[.int .i64 1, .int .i64 7, .int .i64 c, .int .u64 x, .int .u64 x, .bool true] (0, 0) _ (by simp) M5 Try.underlying62 rfl (by kernel_rfl)) rfl ⟨rfl, D5, G5, F5⟩

theorem u_link {lo hi b rb : Nat} {w : World} {q : Cfg} {A B : Int → List Int} (h : Duo lo hi w b rb q A B) {g : Nat} (hg : g < lo ∨ hi ≤ g) (c x : Int) (x0 : 0 ≤ x) (x1 : x ≤ 18446744073709551615) (t : Int) (ht : x % 65536 - 1 = t - 1) (t0 : 0 ≤ t) (t1 : t ≤ 65536) (j : Nat) (hl : j < (A 8).length) (y : Int) (hy : (A 8).getD j 0 = y) (M : Mem w g 146 #[.int .i64 1, .int .i64 c, .int .i64 j, .int .u64 x]) : Calls Try.prog 42 #[.pointer (some ⟨g, 0, none⟩), .pointer (some ⟨b, 0, none⟩)] w fun e w' => e = .returned (accV 2 8 j y t true) ∧ Duo lo hi w' b rb q (upd A 8 j t) B ∧ Mem w' g 146 #[.int .i64 2, .int .i64 c, .int .i64 j, .int .u64 x] ∧ Fr (PG lo hi g) w w' := by
  have hw3 : IntKind.i64.wrap t = t := IntWalk.i64_in _ (by omega)
  have hw1 : IntKind.i64.wrap (t - 1 + 1) = t := (IntWalk.i64_in _ (by omega)).trans (by omega)
  have hw2 : IntKind.u64.wrap t = t := IntWalk.u64_in _ (by omega)
  have htop := h.top
  have R0 := Lib.hid (Mem.new w 62 #[.int .i64 0, .int .i64 0, .int .i64 0, .int .u64 0, .int .u64 0, .bool false])
  have G0 := Lib.hid (M.alloc (.cells #[.int .i64 0, .int .i64 0, .int .i64 0, .int .u64 0, .int .u64 0, .bool false] 62))
  have D0 := Lib.hid (h.alloc (.cells #[.int .i64 0, .int .i64 0, .int .i64 0, .int .u64 0, .int .u64 0, .bool false] 62))
  have F0 := Lib.hid ((Fr.refl (PG lo hi g) w).alloc (.cells #[.int .i64 0, .int .i64 0, .int .i64 0, .int .u64 0, .int .u64 0, .bool false] 62))
  have hgw := M.lt
  have hrw := R0.out.lt
  clear h M
  go_enter Try.func42, Try.ntmps42
  go_upto_region 1 with (fail)
  obtain ⟨W0, hW⟩ : ∃ W', w.alloc (.cells #[.int .i64 0, .int .i64 0, .int .i64 0, .int .u64 0, .int .u64 0, .bool false] 62) = W' := ⟨_, rfl⟩
  rw [hW] at R0 G0 D0 F0
  first | rw [hW] | skip
  clear hW
  have g0_0 := Mem.cell G0.out 0
  have g0_1 := Mem.cell G0.out 1
  have g0_2 := Mem.cell G0.out 2
  have g0_3 := Mem.cell G0.out 3
  have g0_z := G0.out.frozen
  simp at g0_0 g0_1 g0_2 g0_3
  go_upto_region 8 with (fail)
  go_upto_region 9 with (fail)
  have G1 : Hid (Mem (W0.setCell ⟨g, 0, none⟩ (.int .i64 2)) g 146 #[.int .i64 2, .int .i64 c, .int .i64 j, .int .u64 x]) := Lib.hid (by have := G0.out.set_ 0 (.int .i64 2); simpa using this)
  have R1 := Lib.hid (R0.out.far (a := ⟨g, 0, none⟩) (by show w.heap.size ≠ g; omega) (.int .i64 2))
  have D1 := Lib.hid (D0.out.set_ ⟨g, 0, none⟩ hg (.int .i64 2))
  have F1 := Lib.hid (F0.out.set_ ⟨g, 0, none⟩ (.inl (.inr rfl)) (.int .i64 2))
  obtain ⟨W1, hW⟩ : ∃ W', W0.setCell ⟨g, 0, none⟩ (.int .i64 2) = W' := ⟨_, rfl⟩
  rw [hW] at R1 G1 D1 F1
  first | rw [hW] | skip
  clear hW
  clear g0_0 g0_1 g0_2 g0_3 g0_z R0 G0 D0 F0
  have g1_0 := Mem.cell G1.out 0
  have g1_1 := Mem.cell G1.out 1
  have g1_2 := Mem.cell G1.out 2
  have g1_3 := Mem.cell G1.out 3
  have g1_z := G1.out.frozen
  simp at g1_0 g1_1 g1_2 g1_3
  have htp := w_top x x0 x1
  simp only [ht] at htp
  go_cut [6, 7] (fun pv m0v wc => m0v = .int .i64 0 ∧ ∃ ga : Nat, pv = .pointer (some ⟨ga, 0, none⟩) ∧ Hid (Mem wc w.heap.size 62 #[.int .i64 0, .int .i64 0, .int .i64 0, .int .u64 0, .int .u64 0, .bool false]) ∧ Hid (Mem wc g 146 #[.int .i64 2, .int .i64 c, .int .i64 j, .int .u64 x]) ∧ Hid (Duo lo hi wc b rb q (upd A 8 j t) B) ∧ Hid (Fr (PG lo hi g) w wc) ∧ Hid (Mem wc ga 62 #[.int .i64 2, .int .i64 8, .int .i64 j, .int .u64 y, .int .u64 t, .bool true]) ∧ hi ≤ ga ∧ g < ga ∧ w.heap.size < ga)
  case first =>
    have hgW : g < W1.heap.size := G1.out.lt
    have hrW : w.heap.size < W1.heap.size := R1.out.lt
    have htW : hi ≤ W1.heap.size := D1.out.top
    have hs0 : (fun W : World => W.cell? ⟨g, 2, none⟩ = some (.int .i64 j) ∧ W.cell? ⟨g, 3, none⟩ = some (.int .u64 x)) (W1.drew) := ⟨g1_2, g1_3⟩
    have hs1 : (fun W : World => W.cell? ⟨g, 2, none⟩ = some (.int .i64 j) ∧ W.cell? ⟨g, 3, none⟩ = some (.int .u64 x)) ((W1.alloc (.cells #[.int .i64 0, .int .i64 0, .int .i64 0, .int .u64 0, .int .u64 0, .bool false] 62)).drew) := ⟨((G1.out.alloc (.cells #[.int .i64 0, .int .i64 0, .int .i64 0, .int .u64 0, .int .u64 0, .bool false] 62)).drewN 1).cell 2, ((G1.out.alloc (.cells #[.int .i64 0, .int .i64 0, .int .i64 0, .int .u64 0, .int .u64 0, .bool false] 62)).drewN 1).cell 3⟩
    have hc := d_store (D1.out.drewN 1) 8 (by decide) j hl y hy t
    rw [show W1.drewN 1 = W1.drew from rfl] at hc
    have hc2 := d_store ((D1.out.alloc (.cells #[.int .i64 0, .int .i64 0, .int .i64 0, .int .u64 0, .int .u64 0, .bool false] 62)).drewN 1) 8 (by decide) j hl y hy t
    rw [show (W1.alloc (.cells #[.int .i64 0, .int .i64 0, .int .i64 0, .int .u64 0, .int .u64 0, .bool false] 62)).drewN 1 = (W1.alloc (.cells #[.int .i64 0, .int .i64 0, .int .i64 0, .int .u64 0, .int .u64 0, .bool false] 62)).drew from rfl] at hc2
    have hka : ∀ W', Stay lo hi W1.drew W' → ((fun W : World => W.cell? ⟨g, 2, none⟩ = some (.int .i64 j) ∧ W.cell? ⟨g, 3, none⟩ = some (.int .u64 x)) W' ∧ (fun W : World => W.cell? ⟨g, 2, none⟩ = some (.int .i64 j) ∧ W.cell? ⟨g, 3, none⟩ = some (.int .u64 x)) (W'.alloc (.cells #[.int .i64 0, .int .i64 0, .int .i64 0, .int .u64 0, .int .u64 0, .bool false] 62)) ∧ (fun W : World => W.cell? ⟨g, 2, none⟩ = some (.int .i64 j) ∧ W.cell? ⟨g, 3, none⟩ = some (.int .u64 x)) (W'.alloc (.cells #[.int .i64 2, .int .i64 8, .int .i64 j, .int .u64 y, .int .u64 t, .bool true] 62))) := fun W' hS => by
      have m := Mem.of_eq (G1.out.drewN 1) (hS.block g hgW hg)
      exact ⟨⟨m.cell 2, m.cell 3⟩, ⟨(m.alloc (.cells #[.int .i64 0, .int .i64 0, .int .i64 0, .int .u64 0, .int .u64 0, .bool false] 62)).cell 2, (m.alloc (.cells #[.int .i64 0, .int .i64 0, .int .i64 0, .int .u64 0, .int .u64 0, .bool false] 62)).cell 3⟩, ⟨(m.alloc (.cells #[.int .i64 2, .int .i64 8, .int .i64 j, .int .u64 y, .int .u64 t, .bool true] 62)).cell 2, (m.alloc (.cells #[.int .i64 2, .int .i64 8, .int .i64 j, .int .u64 y, .int .u64 t, .bool true] 62)).cell 3⟩⟩
    have hkb : ∀ W', Stay lo hi (W1.alloc (.cells #[.int .i64 0, .int .i64 0, .int .i64 0, .int .u64 0, .int .u64 0, .bool false] 62)).drew W' → ((fun W : World => W.cell? ⟨g, 2, none⟩ = some (.int .i64 j) ∧ W.cell? ⟨g, 3, none⟩ = some (.int .u64 x)) W' ∧ (fun W : World => W.cell? ⟨g, 2, none⟩ = some (.int .i64 j) ∧ W.cell? ⟨g, 3, none⟩ = some (.int .u64 x)) (((((((W'.setCell ⟨W1.heap.size, 0, none⟩ (.int .i64 2)).setCell ⟨W1.heap.size, 1, none⟩ (.int .i64 8)).setCell ⟨W1.heap.size, 2, none⟩ (.int .i64 j)).setCell ⟨W1.heap.size, 3, none⟩ (.int .u64 y)).setCell ⟨W1.heap.size, 4, none⟩ (.int .u64 t)).setCell ⟨W1.heap.size, 5, none⟩ (.bool true))) ∧ Mem W' W1.heap.size 62 #[.int .i64 0, .int .i64 0, .int .i64 0, .int .u64 0, .int .u64 0, .bool false]) := fun W' hS => by
      have hsz : (W1.alloc (.cells #[.int .i64 0, .int .i64 0, .int .i64 0, .int .u64 0, .int .u64 0, .bool false] 62)).drew.heap.size = W1.heap.size + 1 := size_new _ _
      have m := Mem.of_eq ((G1.out.alloc (.cells #[.int .i64 0, .int .i64 0, .int .i64 0, .int .u64 0, .int .u64 0, .bool false] 62)).drewN 1) (hS.block g (by omega) hg)
      have z0 : Mem W' W1.heap.size 62 #[.int .i64 0, .int .i64 0, .int .i64 0, .int .u64 0, .int .u64 0, .bool false] := Mem.of_eq ((Mem.new W1 62 #[.int .i64 0, .int .i64 0, .int .i64 0, .int .u64 0, .int .u64 0, .bool false]).drewN 1) (hS.block W1.heap.size (by omega) (.inr htW))
      have m2 := mem_fr (P := fun x => x = W1.heap.size) m (Fr.of_stay (store6 z0 (.int .i64 2) (.int .i64 8) (.int .i64 j) (.int .u64 y) (.int .u64 t) (.bool true)).2 fun x a c => by omega) (by omega)
      exact ⟨⟨m.cell 2, m.cell 3⟩, ⟨m2.cell 2, m2.cell 3⟩, z0⟩
    go_region_held3 (fun W : World => W.cell? ⟨g, 2, none⟩ = some (.int .i64 j) ∧ W.cell? ⟨g, 3, none⟩ = some (.int .u64 x)) (first | (with_reducible exact hs0) | (with_reducible exact hs1) | (with_reducible assumption)) (first | (go_at_call 91; (with_reducible refine (htp _).mono ?_); rintro e w9 ⟨rfl, rfl⟩) | (go_at_call 72; (with_reducible refine hc.mono ?_); rintro e w2' ⟨rfl, hD, hS⟩; obtain ⟨hk1, hk2, hk3⟩ := hka _ hS) | (go_at_call 72; (with_reducible refine hc2.mono ?_); rintro e w2' ⟨rfl, hD, hS⟩; obtain ⟨hk1, hk2, hk3⟩ := hkb _ hS; have d0 := hk3.cell 0; have d1 := hk3.cell 1; have d2 := hk3.cell 2; have d3 := hk3.cell 3; have d4 := hk3.cell 4; have d5 := hk3.cell 5; have df := hk3.frozen))
    all_goals go_wp2_with fail
    all_goals go_meet
    all_goals first
      | exact ⟨rfl, _, rfl, Lib.hid ((Mem.of_eq (R1.out.drewN 1) (hS.block w.heap.size hrW (.inr htop))).alloc (.cells #[.int .i64 2, .int .i64 8, .int .i64 j, .int .u64 y, .int .u64 t, .bool true] 62)), Lib.hid ((Mem.of_eq (G1.out.drewN 1) (hS.block g hgW hg)).alloc (.cells #[.int .i64 2, .int .i64 8, .int .i64 j, .int .u64 y, .int .u64 t, .bool true] 62)), Lib.hid (hD.alloc (.cells #[.int .i64 2, .int .i64 8, .int .i64 j, .int .u64 y, .int .u64 t, .bool true] 62)), Lib.hid (((F1.out.drewN 1).trans (Fr.of_stay hS fun x a c => .inl ⟨a, c⟩)).alloc (.cells #[.int .i64 2, .int .i64 8, .int .i64 j, .int .u64 y, .int .u64 t, .bool true] 62)), Lib.hid (Mem.new w2' 62 #[.int .i64 2, .int .i64 8, .int .i64 j, .int .u64 y, .int .u64 t, .bool true]), hD.top, Nat.lt_of_lt_of_le hgW hS.size, Nat.lt_of_lt_of_le hrW hS.size⟩
      | (have hsz : (W1.alloc (.cells #[.int .i64 0, .int .i64 0, .int .i64 0, .int .u64 0, .int .u64 0, .bool false] 62)).drew.heap.size = W1.heap.size + 1 := size_new _ _
         have S6 := (store6 hk3 (.int .i64 2) (.int .i64 8) (.int .i64 j) (.int .u64 y) (.int .u64 t) (.bool true))
         have F6 : Fr (fun x => x = W1.heap.size) w2' _ := Fr.of_stay S6.2 fun x a c => by omega
         have F7 := (((F1.out.alloc (.cells #[.int .i64 0, .int .i64 0, .int .i64 0, .int .u64 0, .int .u64 0, .bool false] 62)).drewN 1).trans (Fr.of_stay hS fun x a c => .inl ⟨a, c⟩))
         exact ⟨rfl, _, rfl, Lib.hid (mem_fr (Mem.of_eq ((R1.out.alloc (.cells #[.int .i64 0, .int .i64 0, .int .i64 0, .int .u64 0, .int .u64 0, .bool false] 62)).drewN 1) (hS.block w.heap.size (by omega) (.inr htop))) F6 (by omega)), Lib.hid (mem_fr (Mem.of_eq ((G1.out.alloc (.cells #[.int .i64 0, .int .i64 0, .int .i64 0, .int .u64 0, .int .u64 0, .bool false] 62)).drewN 1) (hS.block g (by omega) hg)) F6 (by omega)), Lib.hid (hD.fr F6 fun x a c => by omega), Lib.hid (F7.then F6 fun x a c => by omega), Lib.hid S6.1, htW, hgW, hrW⟩)
  obtain ⟨rfl, ga, rfl, R2, G2, D2, F2, HA2, hgat, hgag, hgaw⟩ := hcut
  clear g1_0 g1_1 g1_2 g1_3 g1_z R1 G1 D1 F1
  have g2_0 := Mem.cell G2.out 0
  have g2_1 := Mem.cell G2.out 1
  have g2_2 := Mem.cell G2.out 2
  have g2_3 := Mem.cell G2.out 3
  have g2_z := G2.out.frozen
  have a2_0 := Mem.cell HA2.out 0
  have a2_1 := Mem.cell HA2.out 1
  have a2_2 := Mem.cell HA2.out 2
  have a2_3 := Mem.cell HA2.out 3
  have a2_4 := Mem.cell HA2.out 4
  have a2_5 := Mem.cell HA2.out 5
  simp at g2_0 g2_1 g2_2 g2_3 a2_0 a2_1 a2_2 a2_3 a2_4 a2_5
  go_upto_region 10 with (fail)
  have r0_0 := Mem.cell R2.out 0
  have r0_1 := Mem.cell R2.out 1
  have r0_2 := Mem.cell R2.out 2
  have r0_3 := Mem.cell R2.out 3
  have r0_4 := Mem.cell R2.out 4
  have r0_5 := Mem.cell R2.out 5
  have r0_z := R2.out.frozen
  go_wp2
  obtain ⟨M5, S5⟩ := store6 R2.out (.int .i64 2) (.int .i64 8) (.int .i64 j) (.int .u64 y) (.int .u64 t) (.bool true)
  have D5 := D2.out.fr (P := fun x => x = w.heap.size) (Fr.of_stay S5 fun x a c => by omega) fun x a c => by omega
  have G5 := mem_fr (P := fun x => x = w.heap.size) G2.out (Fr.of_stay S5 fun x a c => by omega) (by omega)
  have F5 := Fr.then (Q := fun x => x = w.heap.size) F2.out (Fr.of_stay S5 fun x a c => by omega) fun x a c => by omega
  obtain ⟨V, hV⟩ : ∃ V, ((((((wc.setCell ⟨w.heap.size, 0, none⟩ (.int .i64 2)).setCell ⟨w.heap.size, 1, none⟩ (.int .i64 8)).setCell ⟨w.heap.size, 2, none⟩ (.int .i64 j)).setCell ⟨w.heap.size, 3, none⟩ (.int .u64 y)).setCell ⟨w.heap.size, 4, none⟩ (.int .u64 t)).setCell ⟨w.heap.size, 5, none⟩ (.bool true)) = V := ⟨_, rfl⟩
  rw [hV] at M5 D5 F5 G5 ⊢
  refine bodyPost_ret (v := .agg #[.int .i64 2, .int .i64 8, .int .i64 j, .int .u64 y, .int .u64 t, .bool true]) (results_cell_row rfl _ _ w.heap.size 62 #[.int .i64 2, .int .i64 8, .int .i64 j, .int .u64 y, .int .u64 t, .bool true] (0, 0) _ (by simp) M5 Try.underlying62 rfl (by kernel_rfl)) rfl ⟨rfl, D5, G5, F5⟩

theorem u_put_yes {lo hi b rb : Nat} {w : World} {q : Cfg} {A B : Int → List Int} (h : Duo lo hi w b rb q A B) {g : Nat} (hg : g < lo ∨ hi ≤ g) (k x : Int) (x0 : 0 ≤ x) (x1 : x ≤ 18446744073709551615) (n0 : -1 ≤ k) (n1 : k < 64) (c : Nat) (hl : c < (A 7).length) (hz : (A 7).getD c 0 = x) (v : Int) (hv : (x / 65536 + 1) % 281474976710656 * 65536 + (k + 1) = v) (M : Mem w g 146 #[.int .i64 2, .int .i64 c, .int .i64 k, .int .u64 x]) : Calls Try.prog 96 #[.pointer (some ⟨g, 0, none⟩), .pointer (some ⟨b, 0, none⟩)] w fun e w' => e = .returned (accV 3 7 c x v true) ∧ Duo lo hi w' b rb q (upd A 7 c v) B ∧ Mem w' g 146 #[.int .i64 3, .int .i64 c, .int .i64 k, .int .u64 x] ∧ Fr (PG lo hi g) w w' := by
  have htop := h.top
  have R0 := Lib.hid (Mem.new w 62 #[.int .i64 0, .int .i64 0, .int .i64 0, .int .u64 0, .int .u64 0, .bool false])
  have G0 := Lib.hid (M.alloc (.cells #[.int .i64 0, .int .i64 0, .int .i64 0, .int .u64 0, .int .u64 0, .bool false] 62))
  have D0 := Lib.hid (h.alloc (.cells #[.int .i64 0, .int .i64 0, .int .i64 0, .int .u64 0, .int .u64 0, .bool false] 62))
  have F0 := Lib.hid ((Fr.refl (PG lo hi g) w).alloc (.cells #[.int .i64 0, .int .i64 0, .int .i64 0, .int .u64 0, .int .u64 0, .bool false] 62))
  have hgw := M.lt
  have hrw := R0.out.lt
  clear h M
  go_enter Try.func96, Try.ntmps96
  go_upto_region 1 with (fail)
  obtain ⟨W0, hW⟩ : ∃ W', w.alloc (.cells #[.int .i64 0, .int .i64 0, .int .i64 0, .int .u64 0, .int .u64 0, .bool false] 62) = W' := ⟨_, rfl⟩
  rw [hW] at R0 G0 D0 F0
  first | rw [hW] | skip
  clear hW
  have g0_0 := Mem.cell G0.out 0
  have g0_1 := Mem.cell G0.out 1
  have g0_2 := Mem.cell G0.out 2
  have g0_3 := Mem.cell G0.out 3
  have g0_z := G0.out.frozen
  simp at g0_0 g0_1 g0_2 g0_3
  go_upto_region 2 with (fail)
  have G1 : Hid (Mem (W0.setCell ⟨g, 0, none⟩ (.int .i64 3)) g 146 #[.int .i64 3, .int .i64 c, .int .i64 k, .int .u64 x]) := Lib.hid (by have := G0.out.set_ 0 (.int .i64 3); simpa using this)
  have R1 := Lib.hid (R0.out.far (a := ⟨g, 0, none⟩) (by show w.heap.size ≠ g; omega) (.int .i64 3))
  have D1 := Lib.hid (D0.out.set_ ⟨g, 0, none⟩ hg (.int .i64 3))
  have F1 := Lib.hid (F0.out.set_ ⟨g, 0, none⟩ (.inl (.inr rfl)) (.int .i64 3))
  obtain ⟨W1, hW⟩ : ∃ W', W0.setCell ⟨g, 0, none⟩ (.int .i64 3) = W' := ⟨_, rfl⟩
  rw [hW] at R1 G1 D1 F1
  first | rw [hW] | skip
  clear hW
  clear g0_0 g0_1 g0_2 g0_3 g0_z R0 G0 D0 F0
  have g1_0 := Mem.cell G1.out 0
  have g1_1 := Mem.cell G1.out 1
  have g1_2 := Mem.cell G1.out 2
  have g1_3 := Mem.cell G1.out 3
  have g1_z := G1.out.frozen
  simp at g1_0 g1_1 g1_2 g1_3
  have R2 := Lib.hid (R1.out.drewN 1)
  have G2 := Lib.hid (G1.out.drewN 1)
  have D2 := Lib.hid (D1.out.drewN 1)
  have F2 := Lib.hid (F1.out.drewN 1)
  have hs0 : (fun W : World => W.cell? ⟨g, 3, none⟩ = some (.int .u64 x) ∧ W.cell? ⟨g, 2, none⟩ = some (.int .i64 k)) (W1.drew) := ⟨g1_3, g1_2⟩
  go_region_held3 (fun W : World => W.cell? ⟨g, 3, none⟩ = some (.int .u64 x) ∧ W.cell? ⟨g, 2, none⟩ = some (.int .i64 k)) (first | exact hs0 | assumption) (first | (go_at_call 92; (with_reducible refine (w_bump x k x0 x1 n0 n1 _).mono ?_); rintro e w9 ⟨rfl, rfl⟩))
  clear hs0
  rw [show W1.drew = W1.drewN 1 from rfl]
  obtain ⟨W2, hW⟩ : ∃ W', W1.drewN 1 = W' := ⟨_, rfl⟩
  rw [hW] at R2 G2 D2 F2
  first | rw [hW] | skip
  clear hW
  clear g1_0 g1_1 g1_2 g1_3 g1_z R1 G1 D1 F1
  have g2_0 := Mem.cell G2.out 0
  have g2_1 := Mem.cell G2.out 1
  have g2_2 := Mem.cell G2.out 2
  have g2_3 := Mem.cell G2.out 3
  have g2_z := G2.out.frozen
  simp at g2_0 g2_1 g2_2 g2_3
  first | rw [hv] | skip
  go_upto_region 5 with (fail)
  go_cut [7, 8] (fun pv m0v wc => m0v = .bool true ∧ ∃ ga : Nat, pv = .pointer (some ⟨ga, 0, none⟩) ∧ Hid (Mem wc w.heap.size 62 #[.int .i64 0, .int .i64 0, .int .i64 0, .int .u64 0, .int .u64 0, .bool false]) ∧ Hid (Mem wc g 146 #[.int .i64 3, .int .i64 c, .int .i64 k, .int .u64 x]) ∧ Hid (Duo lo hi wc b rb q (upd A 7 c v) B) ∧ Hid (Fr (PG lo hi g) w wc) ∧ Hid (Mem wc ga 62 #[.int .i64 3, .int .i64 7, .int .i64 c, .int .u64 x, .int .u64 v, .bool true]) ∧ hi ≤ ga ∧ g < ga ∧ w.heap.size < ga)
  case first =>
    have hgW : g < W2.heap.size := G2.out.lt
    have hrW : w.heap.size < W2.heap.size := R2.out.lt
    have htW : hi ≤ W2.heap.size := D2.out.top
    have hs0 : (fun W : World => W.cell? ⟨g, 1, none⟩ = some (.int .i64 c) ∧ W.cell? ⟨g, 3, none⟩ = some (.int .u64 x)) (W2.drew) := ⟨g2_1, g2_3⟩
    have hs1 : (fun W : World => W.cell? ⟨g, 1, none⟩ = some (.int .i64 c) ∧ W.cell? ⟨g, 3, none⟩ = some (.int .u64 x)) ((W2.alloc (.cells #[.int .i64 0, .int .i64 0, .int .i64 0, .int .u64 0, .int .u64 0, .bool false] 62)).drew) := ⟨((G2.out.alloc (.cells #[.int .i64 0, .int .i64 0, .int .i64 0, .int .u64 0, .int .u64 0, .bool false] 62)).drewN 1).cell 1, ((G2.out.alloc (.cells #[.int .i64 0, .int .i64 0, .int .i64 0, .int .u64 0, .int .u64 0, .bool false] 62)).drewN 1).cell 3⟩
    have hc := f_swap (D2.out.drewN 1) c hl x hz x v v true (Lib.hid (by simp)) (Lib.hid (by simp))
    rw [show W2.drewN 1 = W2.drew from rfl] at hc
    have hc2 := f_swap ((D2.out.alloc (.cells #[.int .i64 0, .int .i64 0, .int .i64 0, .int .u64 0, .int .u64 0, .bool false] 62)).drewN 1) c hl x hz x v v true (Lib.hid (by simp)) (Lib.hid (by simp))
    rw [show (W2.alloc (.cells #[.int .i64 0, .int .i64 0, .int .i64 0, .int .u64 0, .int .u64 0, .bool false] 62)).drewN 1 = (W2.alloc (.cells #[.int .i64 0, .int .i64 0, .int .i64 0, .int .u64 0, .int .u64 0, .bool false] 62)).drew from rfl] at hc2
    have hka : ∀ W', Stay lo hi W2.drew W' → ((fun W : World => W.cell? ⟨g, 1, none⟩ = some (.int .i64 c) ∧ W.cell? ⟨g, 3, none⟩ = some (.int .u64 x)) W' ∧ (fun W : World => W.cell? ⟨g, 1, none⟩ = some (.int .i64 c) ∧ W.cell? ⟨g, 3, none⟩ = some (.int .u64 x)) (W'.alloc (.cells #[.int .i64 0, .int .i64 0, .int .i64 0, .int .u64 0, .int .u64 0, .bool false] 62)) ∧ (fun W : World => W.cell? ⟨g, 1, none⟩ = some (.int .i64 c) ∧ W.cell? ⟨g, 3, none⟩ = some (.int .u64 x)) (W'.alloc (.cells #[.int .i64 3, .int .i64 7, .int .i64 c, .int .u64 x, .int .u64 v, .bool true] 62))) := fun W' hS => by
      have m := Mem.of_eq (G2.out.drewN 1) (hS.block g hgW hg)
      exact ⟨⟨m.cell 1, m.cell 3⟩, ⟨(m.alloc (.cells #[.int .i64 0, .int .i64 0, .int .i64 0, .int .u64 0, .int .u64 0, .bool false] 62)).cell 1, (m.alloc (.cells #[.int .i64 0, .int .i64 0, .int .i64 0, .int .u64 0, .int .u64 0, .bool false] 62)).cell 3⟩, ⟨(m.alloc (.cells #[.int .i64 3, .int .i64 7, .int .i64 c, .int .u64 x, .int .u64 v, .bool true] 62)).cell 1, (m.alloc (.cells #[.int .i64 3, .int .i64 7, .int .i64 c, .int .u64 x, .int .u64 v, .bool true] 62)).cell 3⟩⟩
    have hkb : ∀ W', Stay lo hi (W2.alloc (.cells #[.int .i64 0, .int .i64 0, .int .i64 0, .int .u64 0, .int .u64 0, .bool false] 62)).drew W' → ((fun W : World => W.cell? ⟨g, 1, none⟩ = some (.int .i64 c) ∧ W.cell? ⟨g, 3, none⟩ = some (.int .u64 x)) W' ∧ (fun W : World => W.cell? ⟨g, 1, none⟩ = some (.int .i64 c) ∧ W.cell? ⟨g, 3, none⟩ = some (.int .u64 x)) (((((((W'.setCell ⟨W2.heap.size, 0, none⟩ (.int .i64 3)).setCell ⟨W2.heap.size, 1, none⟩ (.int .i64 7)).setCell ⟨W2.heap.size, 2, none⟩ (.int .i64 c)).setCell ⟨W2.heap.size, 3, none⟩ (.int .u64 x)).setCell ⟨W2.heap.size, 4, none⟩ (.int .u64 v)).setCell ⟨W2.heap.size, 5, none⟩ (.bool true))) ∧ Mem W' W2.heap.size 62 #[.int .i64 0, .int .i64 0, .int .i64 0, .int .u64 0, .int .u64 0, .bool false]) := fun W' hS => by
      have hsz : (W2.alloc (.cells #[.int .i64 0, .int .i64 0, .int .i64 0, .int .u64 0, .int .u64 0, .bool false] 62)).drew.heap.size = W2.heap.size + 1 := size_new _ _
      have m := Mem.of_eq ((G2.out.alloc (.cells #[.int .i64 0, .int .i64 0, .int .i64 0, .int .u64 0, .int .u64 0, .bool false] 62)).drewN 1) (hS.block g (by omega) hg)
      have z0 : Mem W' W2.heap.size 62 #[.int .i64 0, .int .i64 0, .int .i64 0, .int .u64 0, .int .u64 0, .bool false] := Mem.of_eq ((Mem.new W2 62 #[.int .i64 0, .int .i64 0, .int .i64 0, .int .u64 0, .int .u64 0, .bool false]).drewN 1) (hS.block W2.heap.size (by omega) (.inr htW))
      have m2 := mem_fr (P := fun x => x = W2.heap.size) m (Fr.of_stay (store6 z0 (.int .i64 3) (.int .i64 7) (.int .i64 c) (.int .u64 x) (.int .u64 v) (.bool true)).2 fun x a c => by omega) (by omega)
      exact ⟨⟨m.cell 1, m.cell 3⟩, ⟨m2.cell 1, m2.cell 3⟩, z0⟩
    go_region_held3 (fun W : World => W.cell? ⟨g, 1, none⟩ = some (.int .i64 c) ∧ W.cell? ⟨g, 3, none⟩ = some (.int .u64 x)) (first | (with_reducible exact hs0) | (with_reducible exact hs1) | (with_reducible assumption)) (first | (go_at_call 93; (with_reducible refine hc.mono ?_); rintro e w2' ⟨rfl, hD, hS⟩; obtain ⟨hk1, hk2, hk3⟩ := hka _ hS) | (go_at_call 93; (with_reducible refine hc2.mono ?_); rintro e w2' ⟨rfl, hD, hS⟩; obtain ⟨hk1, hk2, hk3⟩ := hkb _ hS; have d0 := hk3.cell 0; have d1 := hk3.cell 1; have d2 := hk3.cell 2; have d3 := hk3.cell 3; have d4 := hk3.cell 4; have d5 := hk3.cell 5; have df := hk3.frozen))
    all_goals go_wp2_with fail
    all_goals go_meet
    all_goals first
      | exact ⟨rfl, _, rfl, Lib.hid ((Mem.of_eq (R2.out.drewN 1) (hS.block w.heap.size hrW (.inr htop))).alloc (.cells #[.int .i64 3, .int .i64 7, .int .i64 c, .int .u64 x, .int .u64 v, .bool true] 62)), Lib.hid ((Mem.of_eq (G2.out.drewN 1) (hS.block g hgW hg)).alloc (.cells #[.int .i64 3, .int .i64 7, .int .i64 c, .int .u64 x, .int .u64 v, .bool true] 62)), Lib.hid (hD.alloc (.cells #[.int .i64 3, .int .i64 7, .int .i64 c, .int .u64 x, .int .u64 v, .bool true] 62)), Lib.hid (((F2.out.drewN 1).trans (Fr.of_stay hS fun x a c => .inl ⟨a, c⟩)).alloc (.cells #[.int .i64 3, .int .i64 7, .int .i64 c, .int .u64 x, .int .u64 v, .bool true] 62)), Lib.hid (Mem.new w2' 62 #[.int .i64 3, .int .i64 7, .int .i64 c, .int .u64 x, .int .u64 v, .bool true]), hD.top, Nat.lt_of_lt_of_le hgW hS.size, Nat.lt_of_lt_of_le hrW hS.size⟩
      | (have hsz : (W2.alloc (.cells #[.int .i64 0, .int .i64 0, .int .i64 0, .int .u64 0, .int .u64 0, .bool false] 62)).drew.heap.size = W2.heap.size + 1 := size_new _ _
         have S6 := (store6 hk3 (.int .i64 3) (.int .i64 7) (.int .i64 c) (.int .u64 x) (.int .u64 v) (.bool true))
         have F6 : Fr (fun x => x = W2.heap.size) w2' _ := Fr.of_stay S6.2 fun x a c => by omega
         have F7 := (((F2.out.alloc (.cells #[.int .i64 0, .int .i64 0, .int .i64 0, .int .u64 0, .int .u64 0, .bool false] 62)).drewN 1).trans (Fr.of_stay hS fun x a c => .inl ⟨a, c⟩))
         exact ⟨rfl, _, rfl, Lib.hid (mem_fr (Mem.of_eq ((R2.out.alloc (.cells #[.int .i64 0, .int .i64 0, .int .i64 0, .int .u64 0, .int .u64 0, .bool false] 62)).drewN 1) (hS.block w.heap.size (by omega) (.inr htop))) F6 (by omega)), Lib.hid (mem_fr (Mem.of_eq ((G2.out.alloc (.cells #[.int .i64 0, .int .i64 0, .int .i64 0, .int .u64 0, .int .u64 0, .bool false] 62)).drewN 1) (hS.block g (by omega) hg)) F6 (by omega)), Lib.hid (hD.fr F6 fun x a c => by omega), Lib.hid (F7.then F6 fun x a c => by omega), Lib.hid S6.1, htW, hgW, hrW⟩)
  obtain ⟨rfl, ga, rfl, R3, G3, D3, F3, HA3, hgat, hgag, hgaw⟩ := hcut
  clear g2_0 g2_1 g2_2 g2_3 g2_z R2 G2 D2 F2
  have g3_0 := Mem.cell G3.out 0
  have g3_1 := Mem.cell G3.out 1
  have g3_2 := Mem.cell G3.out 2
  have g3_3 := Mem.cell G3.out 3
  have g3_z := G3.out.frozen
  have a3_0 := Mem.cell HA3.out 0
  have a3_1 := Mem.cell HA3.out 1
  have a3_2 := Mem.cell HA3.out 2
  have a3_3 := Mem.cell HA3.out 3
  have a3_4 := Mem.cell HA3.out 4
  have a3_5 := Mem.cell HA3.out 5
  simp at g3_0 g3_1 g3_2 g3_3 a3_0 a3_1 a3_2 a3_3 a3_4 a3_5
  have r0_0 := Mem.cell R3.out 0
  have r0_1 := Mem.cell R3.out 1
  have r0_2 := Mem.cell R3.out 2
  have r0_3 := Mem.cell R3.out 3
  have r0_4 := Mem.cell R3.out 4
  have r0_5 := Mem.cell R3.out 5
  have r0_z := R3.out.frozen
  go_wp2
  obtain ⟨M5, S5⟩ := store6 R3.out (.int .i64 3) (.int .i64 7) (.int .i64 c) (.int .u64 x) (.int .u64 v) (.bool true)
  have D5 := D3.out.fr (P := fun x => x = w.heap.size) (Fr.of_stay S5 fun x a c => by omega) fun x a c => by omega
  have G5 := mem_fr (P := fun x => x = w.heap.size) G3.out (Fr.of_stay S5 fun x a c => by omega) (by omega)
  have F5 := Fr.then (Q := fun x => x = w.heap.size) F3.out (Fr.of_stay S5 fun x a c => by omega) fun x a c => by omega
  obtain ⟨V, hV⟩ : ∃ V, ((((((wc.setCell ⟨w.heap.size, 0, none⟩ (.int .i64 3)).setCell ⟨w.heap.size, 1, none⟩ (.int .i64 7)).setCell ⟨w.heap.size, 2, none⟩ (.int .i64 c)).setCell ⟨w.heap.size, 3, none⟩ (.int .u64 x)).setCell ⟨w.heap.size, 4, none⟩ (.int .u64 v)).setCell ⟨w.heap.size, 5, none⟩ (.bool true)) = V := ⟨_, rfl⟩
  rw [hV] at M5 D5 F5 G5 ⊢
  refine bodyPost_ret (v := .agg #[.int .i64 3, .int .i64 7, .int .i64 c, .int .u64 x, .int .u64 v, .bool true]) (results_cell_row rfl _ _ w.heap.size 62 #[.int .i64 3, .int .i64 7, .int .i64 c, .int .u64 x, .int .u64 v, .bool true] (0, 0) _ (by simp) M5 Try.underlying62 rfl (by kernel_rfl)) rfl ⟨rfl, D5, G5, F5⟩

theorem u_step2_yes {lo hi b rb : Nat} {w : World} {q : Cfg} {A B : Int → List Int} (h : Duo lo hi w b rb q A B) {g : Nat} (hg : g < lo ∨ hi ≤ g) (k x : Int) (x0 : 0 ≤ x) (x1 : x ≤ 18446744073709551615) (n0 : -1 ≤ k) (n1 : k < 64) (c : Nat) (hl : c < (A 7).length) (hz : (A 7).getD c 0 = x) (v : Int) (hv : (x / 65536 + 1) % 281474976710656 * 65536 + (k + 1) = v) (M : Mem w g 146 #[.int .i64 2, .int .i64 c, .int .i64 k, .int .u64 x]) : Calls Try.prog 42 #[.pointer (some ⟨g, 0, none⟩), .pointer (some ⟨b, 0, none⟩)] w fun e w' => e = .returned (accV 3 7 c x v true) ∧ Duo lo hi w' b rb q (upd A 7 c v) B ∧ Mem w' g 146 #[.int .i64 3, .int .i64 c, .int .i64 k, .int .u64 x] ∧ Fr (PG lo hi g) w w' := by
  have htop := h.top
  have R0 := Lib.hid (Mem.new w 62 #[.int .i64 0, .int .i64 0, .int .i64 0, .int .u64 0, .int .u64 0, .bool false])
  have G0 := Lib.hid (M.alloc (.cells #[.int .i64 0, .int .i64 0, .int .i64 0, .int .u64 0, .int .u64 0, .bool false] 62))
  have D0 := Lib.hid (h.alloc (.cells #[.int .i64 0, .int .i64 0, .int .i64 0, .int .u64 0, .int .u64 0, .bool false] 62))
  have F0 := Lib.hid ((Fr.refl (PG lo hi g) w).alloc (.cells #[.int .i64 0, .int .i64 0, .int .i64 0, .int .u64 0, .int .u64 0, .bool false] 62))
  have hgw := M.lt
  have hrw := R0.out.lt
  clear h M
  go_enter Try.func42, Try.ntmps42
  go_upto_region 1 with (fail)
  obtain ⟨W0, hW⟩ : ∃ W', w.alloc (.cells #[.int .i64 0, .int .i64 0, .int .i64 0, .int .u64 0, .int .u64 0, .bool false] 62) = W' := ⟨_, rfl⟩
  rw [hW] at R0 G0 D0 F0
  first | rw [hW] | skip
  clear hW
  have g0_0 := Mem.cell G0.out 0
  have g0_1 := Mem.cell G0.out 1
  have g0_2 := Mem.cell G0.out 2
  have g0_3 := Mem.cell G0.out 3
  have g0_z := G0.out.frozen
  simp at g0_0 g0_1 g0_2 g0_3
  have hc := u_put_yes D0.out hg k x x0 x1 n0 n1 c hl hz v hv G0.out
  have hR : ∀ w1, Fr (PG lo hi g) W0 w1 → Mem w1 w.heap.size 62 #[.int .i64 0, .int .i64 0, .int .i64 0, .int .u64 0, .int .u64 0, .bool false] := fun w1 hF => mem_fr R0.out hF (by unfold PG; omega)
  go_wp2_with (go_at_call 96; (with_reducible refine hc.mono ?_); rintro e w9 ⟨rfl, hD, hM, hF⟩; have m0 := hR w9 hF; have r0_0 := m0.cell 0; have r0_1 := m0.cell 1; have r0_2 := m0.cell 2; have r0_3 := m0.cell 3; have r0_4 := m0.cell 4; have r0_5 := m0.cell 5; have r0_z := m0.frozen)
  have FF := F0.out.trans hF
  obtain ⟨M5, S5⟩ := store6 (hR w9 hF) (.int .i64 3) (.int .i64 7) (.int .i64 c) (.int .u64 x) (.int .u64 v) (.bool true)
  have D5 := hD.fr (P := fun x => x = w.heap.size) (Fr.of_stay S5 fun x a c => by omega) fun x a c => by omega
  have G5 := mem_fr (P := fun x => x = w.heap.size) hM (Fr.of_stay S5 fun x a c => by omega) (by omega)
  have F5 := Fr.then (Q := fun x => x = w.heap.size) FF (Fr.of_stay S5 fun x a c => by omega) fun x a c => by omega
  obtain ⟨V, hV⟩ : ∃ V, ((((((w9.setCell ⟨w.heap.size, 0, none⟩ (.int .i64 3)).setCell ⟨w.heap.size, 1, none⟩ (.int .i64 7)).setCell ⟨w.heap.size, 2, none⟩ (.int .i64 c)).setCell ⟨w.heap.size, 3, none⟩ (.int .u64 x)).setCell ⟨w.heap.size, 4, none⟩ (.int .u64 v)).setCell ⟨w.heap.size, 5, none⟩ (.bool true)) = V := ⟨_, rfl⟩
  rw [hV] at M5 D5 F5 G5 ⊢
  refine bodyPost_ret (v := .agg #[.int .i64 3, .int .i64 7, .int .i64 c, .int .u64 x, .int .u64 v, .bool true]) (results_cell_row rfl _ _ w.heap.size 62 #[.int .i64 3, .int .i64 7, .int .i64 c, .int .u64 x, .int .u64 v, .bool true] (0, 0) _ (by simp) M5 Try.underlying62 rfl (by kernel_rfl)) rfl ⟨rfl, D5, G5, F5⟩

theorem u_put_no {lo hi b rb : Nat} {w : World} {q : Cfg} {A B : Int → List Int} (h : Duo lo hi w b rb q A B) {g : Nat} (hg : g < lo ∨ hi ≤ g) (k x : Int) (x0 : 0 ≤ x) (x1 : x ≤ 18446744073709551615) (n0 : -1 ≤ k) (n1 : k < 64) (c : Nat) (hl : c < (A 7).length) (z : Int) (hz : (A 7).getD c 0 = z) (v : Int) (hv : (x / 65536 + 1) % 281474976710656 * 65536 + (k + 1) = v) (he : ¬ z = x) (M : Mem w g 146 #[.int .i64 2, .int .i64 c, .int .i64 k, .int .u64 x]) : Calls Try.prog 96 #[.pointer (some ⟨g, 0, none⟩), .pointer (some ⟨b, 0, none⟩)] w fun e w' => e = .returned (accV 3 7 c z z false) ∧ Duo lo hi w' b rb q (upd A 7 c z) B ∧ Mem w' g 146 #[.int .i64 0, .int .i64 c, .int .i64 k, .int .u64 x] ∧ Fr (PG lo hi g) w w' := by
  have htop := h.top
  have R0 := Lib.hid (Mem.new w 62 #[.int .i64 0, .int .i64 0, .int .i64 0, .int .u64 0, .int .u64 0, .bool false])
  have G0 := Lib.hid (M.alloc (.cells #[.int .i64 0, .int .i64 0, .int .i64 0, .int .u64 0, .int .u64 0, .bool false] 62))
  have D0 := Lib.hid (h.alloc (.cells #[.int .i64 0, .int .i64 0, .int .i64 0, .int .u64 0, .int .u64 0, .bool false] 62))
  have F0 := Lib.hid ((Fr.refl (PG lo hi g) w).alloc (.cells #[.int .i64 0, .int .i64 0, .int .i64 0, .int .u64 0, .int .u64 0, .bool false] 62))
  have hgw := M.lt
  have hrw := R0.out.lt
  clear h M
  go_enter Try.func96, Try.ntmps96
  go_upto_region 1 with (fail)
  obtain ⟨W0, hW⟩ : ∃ W', w.alloc (.cells #[.int .i64 0, .int .i64 0, .int .i64 0, .int .u64 0, .int .u64 0, .bool false] 62) = W' := ⟨_, rfl⟩
  rw [hW] at R0 G0 D0 F0
  first | rw [hW] | skip
  clear hW
  have g0_0 := Mem.cell G0.out 0
  have g0_1 := Mem.cell G0.out 1
  have g0_2 := Mem.cell G0.out 2
  have g0_3 := Mem.cell G0.out 3
  have g0_z := G0.out.frozen
  simp at g0_0 g0_1 g0_2 g0_3
  go_upto_region 2 with (fail)
  have G1 : Hid (Mem (W0.setCell ⟨g, 0, none⟩ (.int .i64 3)) g 146 #[.int .i64 3, .int .i64 c, .int .i64 k, .int .u64 x]) := Lib.hid (by have := G0.out.set_ 0 (.int .i64 3); simpa using this)
  have R1 := Lib.hid (R0.out.far (a := ⟨g, 0, none⟩) (by show w.heap.size ≠ g; omega) (.int .i64 3))
  have D1 := Lib.hid (D0.out.set_ ⟨g, 0, none⟩ hg (.int .i64 3))
  have F1 := Lib.hid (F0.out.set_ ⟨g, 0, none⟩ (.inl (.inr rfl)) (.int .i64 3))
  obtain ⟨W1, hW⟩ : ∃ W', W0.setCell ⟨g, 0, none⟩ (.int .i64 3) = W' := ⟨_, rfl⟩
  rw [hW] at R1 G1 D1 F1
  first | rw [hW] | skip
  clear hW
  clear g0_0 g0_1 g0_2 g0_3 g0_z R0 G0 D0 F0
  have g1_0 := Mem.cell G1.out 0
  have g1_1 := Mem.cell G1.out 1
  have g1_2 := Mem.cell G1.out 2
  have g1_3 := Mem.cell G1.out 3
  have g1_z := G1.out.frozen
  simp at g1_0 g1_1 g1_2 g1_3
  have R2 := Lib.hid (R1.out.drewN 1)
  have G2 := Lib.hid (G1.out.drewN 1)
  have D2 := Lib.hid (D1.out.drewN 1)
  have F2 := Lib.hid (F1.out.drewN 1)
  have hs0 : (fun W : World => W.cell? ⟨g, 3, none⟩ = some (.int .u64 x) ∧ W.cell? ⟨g, 2, none⟩ = some (.int .i64 k)) (W1.drew) := ⟨g1_3, g1_2⟩
  go_region_held3 (fun W : World => W.cell? ⟨g, 3, none⟩ = some (.int .u64 x) ∧ W.cell? ⟨g, 2, none⟩ = some (.int .i64 k)) (first | exact hs0 | assumption) (first | (go_at_call 92; (with_reducible refine (w_bump x k x0 x1 n0 n1 _).mono ?_); rintro e w9 ⟨rfl, rfl⟩))
  clear hs0
  rw [show W1.drew = W1.drewN 1 from rfl]
  obtain ⟨W2, hW⟩ : ∃ W', W1.drewN 1 = W' := ⟨_, rfl⟩
  rw [hW] at R2 G2 D2 F2
  first | rw [hW] | skip
  clear hW
  clear g1_0 g1_1 g1_2 g1_3 g1_z R1 G1 D1 F1
  have g2_0 := Mem.cell G2.out 0
  have g2_1 := Mem.cell G2.out 1
  have g2_2 := Mem.cell G2.out 2
  have g2_3 := Mem.cell G2.out 3
  have g2_z := G2.out.frozen
  simp at g2_0 g2_1 g2_2 g2_3
  first | rw [hv] | skip
  go_upto_region 5 with (fail)
  go_cut [7, 8] (fun pv m0v wc => m0v = .bool false ∧ ∃ ga : Nat, pv = .pointer (some ⟨ga, 0, none⟩) ∧ Hid (Mem wc w.heap.size 62 #[.int .i64 0, .int .i64 0, .int .i64 0, .int .u64 0, .int .u64 0, .bool false]) ∧ Hid (Mem wc g 146 #[.int .i64 3, .int .i64 c, .int .i64 k, .int .u64 x]) ∧ Hid (Duo lo hi wc b rb q (upd A 7 c z) B) ∧ Hid (Fr (PG lo hi g) w wc) ∧ Hid (Mem wc ga 62 #[.int .i64 3, .int .i64 7, .int .i64 c, .int .u64 z, .int .u64 z, .bool false]) ∧ hi ≤ ga ∧ g < ga ∧ w.heap.size < ga)
  case first =>
    have hgW : g < W2.heap.size := G2.out.lt
    have hrW : w.heap.size < W2.heap.size := R2.out.lt
    have htW : hi ≤ W2.heap.size := D2.out.top
    have hs0 : (fun W : World => W.cell? ⟨g, 1, none⟩ = some (.int .i64 c) ∧ W.cell? ⟨g, 3, none⟩ = some (.int .u64 x)) (W2.drew) := ⟨g2_1, g2_3⟩
    have hs1 : (fun W : World => W.cell? ⟨g, 1, none⟩ = some (.int .i64 c) ∧ W.cell? ⟨g, 3, none⟩ = some (.int .u64 x)) ((W2.alloc (.cells #[.int .i64 0, .int .i64 0, .int .i64 0, .int .u64 0, .int .u64 0, .bool false] 62)).drew) := ⟨((G2.out.alloc (.cells #[.int .i64 0, .int .i64 0, .int .i64 0, .int .u64 0, .int .u64 0, .bool false] 62)).drewN 1).cell 1, ((G2.out.alloc (.cells #[.int .i64 0, .int .i64 0, .int .i64 0, .int .u64 0, .int .u64 0, .bool false] 62)).drewN 1).cell 3⟩
    have hc := f_swap (D2.out.drewN 1) c hl z hz x v z false (Lib.hid (by simp [he])) (Lib.hid (by simp [he]))
    rw [show W2.drewN 1 = W2.drew from rfl] at hc
    have hc2 := f_swap ((D2.out.alloc (.cells #[.int .i64 0, .int .i64 0, .int .i64 0, .int .u64 0, .int .u64 0, .bool false] 62)).drewN 1) c hl z hz x v z false (Lib.hid (by simp [he])) (Lib.hid (by simp [he]))
    rw [show (W2.alloc (.cells #[.int .i64 0, .int .i64 0, .int .i64 0, .int .u64 0, .int .u64 0, .bool false] 62)).drewN 1 = (W2.alloc (.cells #[.int .i64 0, .int .i64 0, .int .i64 0, .int .u64 0, .int .u64 0, .bool false] 62)).drew from rfl] at hc2
    have hka : ∀ W', Stay lo hi W2.drew W' → ((fun W : World => W.cell? ⟨g, 1, none⟩ = some (.int .i64 c) ∧ W.cell? ⟨g, 3, none⟩ = some (.int .u64 x)) W' ∧ (fun W : World => W.cell? ⟨g, 1, none⟩ = some (.int .i64 c) ∧ W.cell? ⟨g, 3, none⟩ = some (.int .u64 x)) (W'.alloc (.cells #[.int .i64 0, .int .i64 0, .int .i64 0, .int .u64 0, .int .u64 0, .bool false] 62)) ∧ (fun W : World => W.cell? ⟨g, 1, none⟩ = some (.int .i64 c) ∧ W.cell? ⟨g, 3, none⟩ = some (.int .u64 x)) (W'.alloc (.cells #[.int .i64 3, .int .i64 7, .int .i64 c, .int .u64 z, .int .u64 z, .bool false] 62))) := fun W' hS => by
      have m := Mem.of_eq (G2.out.drewN 1) (hS.block g hgW hg)
      exact ⟨⟨m.cell 1, m.cell 3⟩, ⟨(m.alloc (.cells #[.int .i64 0, .int .i64 0, .int .i64 0, .int .u64 0, .int .u64 0, .bool false] 62)).cell 1, (m.alloc (.cells #[.int .i64 0, .int .i64 0, .int .i64 0, .int .u64 0, .int .u64 0, .bool false] 62)).cell 3⟩, ⟨(m.alloc (.cells #[.int .i64 3, .int .i64 7, .int .i64 c, .int .u64 z, .int .u64 z, .bool false] 62)).cell 1, (m.alloc (.cells #[.int .i64 3, .int .i64 7, .int .i64 c, .int .u64 z, .int .u64 z, .bool false] 62)).cell 3⟩⟩
    have hkb : ∀ W', Stay lo hi (W2.alloc (.cells #[.int .i64 0, .int .i64 0, .int .i64 0, .int .u64 0, .int .u64 0, .bool false] 62)).drew W' → ((fun W : World => W.cell? ⟨g, 1, none⟩ = some (.int .i64 c) ∧ W.cell? ⟨g, 3, none⟩ = some (.int .u64 x)) W' ∧ (fun W : World => W.cell? ⟨g, 1, none⟩ = some (.int .i64 c) ∧ W.cell? ⟨g, 3, none⟩ = some (.int .u64 x)) (((((((W'.setCell ⟨W2.heap.size, 0, none⟩ (.int .i64 3)).setCell ⟨W2.heap.size, 1, none⟩ (.int .i64 7)).setCell ⟨W2.heap.size, 2, none⟩ (.int .i64 c)).setCell ⟨W2.heap.size, 3, none⟩ (.int .u64 z)).setCell ⟨W2.heap.size, 4, none⟩ (.int .u64 z)).setCell ⟨W2.heap.size, 5, none⟩ (.bool false))) ∧ Mem W' W2.heap.size 62 #[.int .i64 0, .int .i64 0, .int .i64 0, .int .u64 0, .int .u64 0, .bool false]) := fun W' hS => by
      have hsz : (W2.alloc (.cells #[.int .i64 0, .int .i64 0, .int .i64 0, .int .u64 0, .int .u64 0, .bool false] 62)).drew.heap.size = W2.heap.size + 1 := size_new _ _
      have m := Mem.of_eq ((G2.out.alloc (.cells #[.int .i64 0, .int .i64 0, .int .i64 0, .int .u64 0, .int .u64 0, .bool false] 62)).drewN 1) (hS.block g (by omega) hg)
      have z0 : Mem W' W2.heap.size 62 #[.int .i64 0, .int .i64 0, .int .i64 0, .int .u64 0, .int .u64 0, .bool false] := Mem.of_eq ((Mem.new W2 62 #[.int .i64 0, .int .i64 0, .int .i64 0, .int .u64 0, .int .u64 0, .bool false]).drewN 1) (hS.block W2.heap.size (by omega) (.inr htW))
      have m2 := mem_fr (P := fun x => x = W2.heap.size) m (Fr.of_stay (store6 z0 (.int .i64 3) (.int .i64 7) (.int .i64 c) (.int .u64 z) (.int .u64 z) (.bool false)).2 fun x a c => by omega) (by omega)
      exact ⟨⟨m.cell 1, m.cell 3⟩, ⟨m2.cell 1, m2.cell 3⟩, z0⟩
    go_region_held3 (fun W : World => W.cell? ⟨g, 1, none⟩ = some (.int .i64 c) ∧ W.cell? ⟨g, 3, none⟩ = some (.int .u64 x)) (first | (with_reducible exact hs0) | (with_reducible exact hs1) | (with_reducible assumption)) (first | (go_at_call 93; (with_reducible refine hc.mono ?_); rintro e w2' ⟨rfl, hD, hS⟩; obtain ⟨hk1, hk2, hk3⟩ := hka _ hS) | (go_at_call 93; (with_reducible refine hc2.mono ?_); rintro e w2' ⟨rfl, hD, hS⟩; obtain ⟨hk1, hk2, hk3⟩ := hkb _ hS; have d0 := hk3.cell 0; have d1 := hk3.cell 1; have d2 := hk3.cell 2; have d3 := hk3.cell 3; have d4 := hk3.cell 4; have d5 := hk3.cell 5; have df := hk3.frozen))
    all_goals go_wp2_with fail
    all_goals go_meet
    all_goals first
      | exact ⟨rfl, _, rfl, Lib.hid ((Mem.of_eq (R2.out.drewN 1) (hS.block w.heap.size hrW (.inr htop))).alloc (.cells #[.int .i64 3, .int .i64 7, .int .i64 c, .int .u64 z, .int .u64 z, .bool false] 62)), Lib.hid ((Mem.of_eq (G2.out.drewN 1) (hS.block g hgW hg)).alloc (.cells #[.int .i64 3, .int .i64 7, .int .i64 c, .int .u64 z, .int .u64 z, .bool false] 62)), Lib.hid (hD.alloc (.cells #[.int .i64 3, .int .i64 7, .int .i64 c, .int .u64 z, .int .u64 z, .bool false] 62)), Lib.hid (((F2.out.drewN 1).trans (Fr.of_stay hS fun x a c => .inl ⟨a, c⟩)).alloc (.cells #[.int .i64 3, .int .i64 7, .int .i64 c, .int .u64 z, .int .u64 z, .bool false] 62)), Lib.hid (Mem.new w2' 62 #[.int .i64 3, .int .i64 7, .int .i64 c, .int .u64 z, .int .u64 z, .bool false]), hD.top, Nat.lt_of_lt_of_le hgW hS.size, Nat.lt_of_lt_of_le hrW hS.size⟩
      | (have hsz : (W2.alloc (.cells #[.int .i64 0, .int .i64 0, .int .i64 0, .int .u64 0, .int .u64 0, .bool false] 62)).drew.heap.size = W2.heap.size + 1 := size_new _ _
         have S6 := (store6 hk3 (.int .i64 3) (.int .i64 7) (.int .i64 c) (.int .u64 z) (.int .u64 z) (.bool false))
         have F6 : Fr (fun x => x = W2.heap.size) w2' _ := Fr.of_stay S6.2 fun x a c => by omega
         have F7 := (((F2.out.alloc (.cells #[.int .i64 0, .int .i64 0, .int .i64 0, .int .u64 0, .int .u64 0, .bool false] 62)).drewN 1).trans (Fr.of_stay hS fun x a c => .inl ⟨a, c⟩))
         exact ⟨rfl, _, rfl, Lib.hid (mem_fr (Mem.of_eq ((R2.out.alloc (.cells #[.int .i64 0, .int .i64 0, .int .i64 0, .int .u64 0, .int .u64 0, .bool false] 62)).drewN 1) (hS.block w.heap.size (by omega) (.inr htop))) F6 (by omega)), Lib.hid (mem_fr (Mem.of_eq ((G2.out.alloc (.cells #[.int .i64 0, .int .i64 0, .int .i64 0, .int .u64 0, .int .u64 0, .bool false] 62)).drewN 1) (hS.block g (by omega) hg)) F6 (by omega)), Lib.hid (hD.fr F6 fun x a c => by omega), Lib.hid (F7.then F6 fun x a c => by omega), Lib.hid S6.1, htW, hgW, hrW⟩)
  obtain ⟨rfl, ga, rfl, R3, G3, D3, F3, HA3, hgat, hgag, hgaw⟩ := hcut
  clear g2_0 g2_1 g2_2 g2_3 g2_z R2 G2 D2 F2
  have g3_0 := Mem.cell G3.out 0
  have g3_1 := Mem.cell G3.out 1
  have g3_2 := Mem.cell G3.out 2
  have g3_3 := Mem.cell G3.out 3
  have g3_z := G3.out.frozen
  have a3_0 := Mem.cell HA3.out 0
  have a3_1 := Mem.cell HA3.out 1
  have a3_2 := Mem.cell HA3.out 2
  have a3_3 := Mem.cell HA3.out 3
  have a3_4 := Mem.cell HA3.out 4
  have a3_5 := Mem.cell HA3.out 5
  simp at g3_0 g3_1 g3_2 g3_3 a3_0 a3_1 a3_2 a3_3 a3_4 a3_5
  go_upto_region 7 with (fail)
  go_upto_region 8 with (fail)
  have G4 : Hid (Mem (wc.setCell ⟨g, 0, none⟩ (.int .i64 0)) g 146 #[.int .i64 0, .int .i64 c, .int .i64 k, .int .u64 x]) := Lib.hid (by have := G3.out.set_ 0 (.int .i64 0); simpa using this)
  have R4 := Lib.hid (R3.out.far (a := ⟨g, 0, none⟩) (by show w.heap.size ≠ g; omega) (.int .i64 0))
  have D4 := Lib.hid (D3.out.set_ ⟨g, 0, none⟩ hg (.int .i64 0))
  have F4 := Lib.hid (F3.out.set_ ⟨g, 0, none⟩ (.inl (.inr rfl)) (.int .i64 0))
  have HA4 := Lib.hid (HA3.out.far (a := ⟨g, 0, none⟩) (by show ga ≠ g; omega) (.int .i64 0))
  obtain ⟨W4, hW⟩ : ∃ W', wc.setCell ⟨g, 0, none⟩ (.int .i64 0) = W' := ⟨_, rfl⟩
  rw [hW] at R4 G4 D4 F4 HA4
  first | rw [hW] | skip
  clear hW
  clear g3_0 g3_1 g3_2 g3_3 a3_0 a3_1 a3_2 a3_3 a3_4 a3_5 g3_z R3 G3 D3 F3 HA3
  have g4_0 := Mem.cell G4.out 0
  have g4_1 := Mem.cell G4.out 1
  have g4_2 := Mem.cell G4.out 2
  have g4_3 := Mem.cell G4.out 3
  have g4_z := G4.out.frozen
  have a4_0 := Mem.cell HA4.out 0
  have a4_1 := Mem.cell HA4.out 1
  have a4_2 := Mem.cell HA4.out 2
  have a4_3 := Mem.cell HA4.out 3
  have a4_4 := Mem.cell HA4.out 4
  have a4_5 := Mem.cell HA4.out 5
  simp at g4_0 g4_1 g4_2 g4_3 a4_0 a4_1 a4_2 a4_3 a4_4 a4_5
  have r0_0 := Mem.cell R4.out 0
  have r0_1 := Mem.cell R4.out 1
  have r0_2 := Mem.cell R4.out 2
  have r0_3 := Mem.cell R4.out 3
  have r0_4 := Mem.cell R4.out 4
  have r0_5 := Mem.cell R4.out 5
  have r0_z := R4.out.frozen
  go_wp2
  obtain ⟨M5, S5⟩ := store6 R4.out (.int .i64 3) (.int .i64 7) (.int .i64 c) (.int .u64 z) (.int .u64 z) (.bool false)
  have D5 := D4.out.fr (P := fun x => x = w.heap.size) (Fr.of_stay S5 fun x a c => by omega) fun x a c => by omega
  have G5 := mem_fr (P := fun x => x = w.heap.size) G4.out (Fr.of_stay S5 fun x a c => by omega) (by omega)
  have F5 := Fr.then (Q := fun x => x = w.heap.size) F4.out (Fr.of_stay S5 fun x a c => by omega) fun x a c => by omega
  obtain ⟨V, hV⟩ : ∃ V, ((((((W4.setCell ⟨w.heap.size, 0, none⟩ (.int .i64 3)).setCell ⟨w.heap.size, 1, none⟩ (.int .i64 7)).setCell ⟨w.heap.size, 2, none⟩ (.int .i64 c)).setCell ⟨w.heap.size, 3, none⟩ (.int .u64 z)).setCell ⟨w.heap.size, 4, none⟩ (.int .u64 z)).setCell ⟨w.heap.size, 5, none⟩ (.bool false)) = V := ⟨_, rfl⟩
  rw [hV] at M5 D5 F5 G5 ⊢
  refine bodyPost_ret (v := .agg #[.int .i64 3, .int .i64 7, .int .i64 c, .int .u64 z, .int .u64 z, .bool false]) (results_cell_row rfl _ _ w.heap.size 62 #[.int .i64 3, .int .i64 7, .int .i64 c, .int .u64 z, .int .u64 z, .bool false] (0, 0) _ (by simp) M5 Try.underlying62 rfl (by kernel_rfl)) rfl ⟨rfl, D5, G5, F5⟩

theorem u_step2_no {lo hi b rb : Nat} {w : World} {q : Cfg} {A B : Int → List Int} (h : Duo lo hi w b rb q A B) {g : Nat} (hg : g < lo ∨ hi ≤ g) (k x : Int) (x0 : 0 ≤ x) (x1 : x ≤ 18446744073709551615) (n0 : -1 ≤ k) (n1 : k < 64) (c : Nat) (hl : c < (A 7).length) (z : Int) (hz : (A 7).getD c 0 = z) (v : Int) (hv : (x / 65536 + 1) % 281474976710656 * 65536 + (k + 1) = v) (he : ¬ z = x) (M : Mem w g 146 #[.int .i64 2, .int .i64 c, .int .i64 k, .int .u64 x]) : Calls Try.prog 42 #[.pointer (some ⟨g, 0, none⟩), .pointer (some ⟨b, 0, none⟩)] w fun e w' => e = .returned (accV 3 7 c z z false) ∧ Duo lo hi w' b rb q (upd A 7 c z) B ∧ Mem w' g 146 #[.int .i64 0, .int .i64 c, .int .i64 k, .int .u64 x] ∧ Fr (PG lo hi g) w w' := by
  have htop := h.top
  have R0 := Lib.hid (Mem.new w 62 #[.int .i64 0, .int .i64 0, .int .i64 0, .int .u64 0, .int .u64 0, .bool false])
  have G0 := Lib.hid (M.alloc (.cells #[.int .i64 0, .int .i64 0, .int .i64 0, .int .u64 0, .int .u64 0, .bool false] 62))
  have D0 := Lib.hid (h.alloc (.cells #[.int .i64 0, .int .i64 0, .int .i64 0, .int .u64 0, .int .u64 0, .bool false] 62))
  have F0 := Lib.hid ((Fr.refl (PG lo hi g) w).alloc (.cells #[.int .i64 0, .int .i64 0, .int .i64 0, .int .u64 0, .int .u64 0, .bool false] 62))
  have hgw := M.lt
  have hrw := R0.out.lt
  clear h M
  go_enter Try.func42, Try.ntmps42
  go_upto_region 1 with (fail)
  obtain ⟨W0, hW⟩ : ∃ W', w.alloc (.cells #[.int .i64 0, .int .i64 0, .int .i64 0, .int .u64 0, .int .u64 0, .bool false] 62) = W' := ⟨_, rfl⟩
  rw [hW] at R0 G0 D0 F0
  first | rw [hW] | skip
  clear hW
  have g0_0 := Mem.cell G0.out 0
  have g0_1 := Mem.cell G0.out 1
  have g0_2 := Mem.cell G0.out 2
  have g0_3 := Mem.cell G0.out 3
  have g0_z := G0.out.frozen
  simp at g0_0 g0_1 g0_2 g0_3
  have hc := u_put_no D0.out hg k x x0 x1 n0 n1 c hl z hz v hv he G0.out
  have hR : ∀ w1, Fr (PG lo hi g) W0 w1 → Mem w1 w.heap.size 62 #[.int .i64 0, .int .i64 0, .int .i64 0, .int .u64 0, .int .u64 0, .bool false] := fun w1 hF => mem_fr R0.out hF (by unfold PG; omega)
  go_wp2_with (go_at_call 96; (with_reducible refine hc.mono ?_); rintro e w9 ⟨rfl, hD, hM, hF⟩; have m0 := hR w9 hF; have r0_0 := m0.cell 0; have r0_1 := m0.cell 1; have r0_2 := m0.cell 2; have r0_3 := m0.cell 3; have r0_4 := m0.cell 4; have r0_5 := m0.cell 5; have r0_z := m0.frozen)
  have FF := F0.out.trans hF
  obtain ⟨M5, S5⟩ := store6 (hR w9 hF) (.int .i64 3) (.int .i64 7) (.int .i64 c) (.int .u64 z) (.int .u64 z) (.bool false)
  have D5 := hD.fr (P := fun x => x = w.heap.size) (Fr.of_stay S5 fun x a c => by omega) fun x a c => by omega
  have G5 := mem_fr (P := fun x => x = w.heap.size) hM (Fr.of_stay S5 fun x a c => by omega) (by omega)
  have F5 := Fr.then (Q := fun x => x = w.heap.size) FF (Fr.of_stay S5 fun x a c => by omega) fun x a c => by omega
  obtain ⟨V, hV⟩ : ∃ V, ((((((w9.setCell ⟨w.heap.size, 0, none⟩ (.int .i64 3)).setCell ⟨w.heap.size, 1, none⟩ (.int .i64 7)).setCell ⟨w.heap.size, 2, none⟩ (.int .i64 c)).setCell ⟨w.heap.size, 3, none⟩ (.int .u64 z)).setCell ⟨w.heap.size, 4, none⟩ (.int .u64 z)).setCell ⟨w.heap.size, 5, none⟩ (.bool false)) = V := ⟨_, rfl⟩
  rw [hV] at M5 D5 F5 G5 ⊢
  refine bodyPost_ret (v := .agg #[.int .i64 3, .int .i64 7, .int .i64 c, .int .u64 z, .int .u64 z, .bool false]) (results_cell_row rfl _ _ w.heap.size 62 #[.int .i64 3, .int .i64 7, .int .i64 c, .int .u64 z, .int .u64 z, .bool false] (0, 0) _ (by simp) M5 Try.underlying62 rfl (by kernel_rfl)) rfl ⟨rfl, D5, G5, F5⟩

theorem u_done (g : Nat) (st c k x : Int) (w : World) (M : Mem w g 146 #[.int .i64 st, .int .i64 c, .int .i64 k, .int .u64 x]) : Calls Try.prog 44 #[.pointer (some ⟨g, 0, none⟩)] w fun e w' => e = .returned (.bool (st == 3)) ∧ w = w' := by
  have c0 := M.cell 0
  simp at c0
  clear M
  go_enter Try.func44, Try.ntmps44
  go_wp2
  go_ret
  exact ⟨rfl, rfl⟩

theorem u_new (c k : Int) (w : World) : Calls Try.prog 34 #[.int .i64 c, .int .i64 k] w fun e w' => e = .returned (.pointer (some ⟨w.heap.size, 0, none⟩)) ∧ w' = w.alloc (.cells #[.int .i64 0, .int .i64 c, .int .i64 k, .int .u64 0] 146) := by
  go_enter Try.func34, Try.ntmps34
  go_wp2
  go_ret
  exact ⟨rfl, rfl⟩

end Go.Proofs.Ytpjbmbipkmpkhaa.FreA
