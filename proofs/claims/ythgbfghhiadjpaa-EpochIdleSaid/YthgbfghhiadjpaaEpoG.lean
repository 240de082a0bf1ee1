/-
  Contracts of the reference of layer 9: Fence.
-/
import Derived.Test.YthgbfghhiadjpaaEpoF
namespace Go.Proofs.Ythgbfghhiadjpaa.EpoG
open Go.ChangeShapes Go.WideShapes Go.ChangeAt Go.RowKit
open PlainT BlkW LayS LayA CelS CelM CelP CelV CelN CelO CelF LabD LabR LabP LabS WordC EpoA EpoF
set_option linter.unusedVariables false
set_option maxHeartbeats 1000000
set_option maxRecDepth 100000

theorem g_skip {w : World} {g : Nat} (t n l k : Int) (k0 : 0 ≤ k) (k1 : k ≤ 1000) (M : Mem w g 91 #[.int .i64 t, .int .i64 n, .int .i64 l, .int .i64 k]) : Calls Try.prog 91 #[.pointer (some ⟨g, 0, none⟩)] w fun e w' => e = .returned (.tuple #[]) ∧ Mem w' g 91 #[.int .i64 t, .int .i64 n, .int .i64 l, .int .i64 (skp t k)] ∧ Fr (fun x => x = g) w w' := by
  by_cases he : k = t
  · have e1 : (k == t) = true := by simpa using he
    have hw : IntKind.i64.wrap (k + 1) = k + 1 := IntWalk.i64_in _ (by omega)
    have hv : skp t k = k + 1 := if_pos he
    rw [hv]
    have c0 := M.cell 0
    have c3 := M.cell 3
    have cz := M.frozen
    simp at c0 c3
    have HM := Lib.hid M
    clear M he hv
    go_enter Try.func91, Try.ntmps91
    first | go_quiet (fail) | (go_wp2_with fail; go_quiet (fail))
    have HM2 := Lib.hid (HM.out.drewN nq)
    go_wp2
    go_end0
    refine ⟨rfl, ?_, ?_⟩
    · have := HM2.out.set_ 3 (.int .i64 (k + 1))
      simpa using this
    · exact ((Fr.refl (fun x => x = g) w).drewN nq).set_ ⟨g, 3, none⟩ (.inl rfl) _
  · have e1 : (k == t) = false := by simpa using he
    have hw : IntKind.i64.wrap (k + 1) = k + 1 := IntWalk.i64_in _ (by omega)
    have hv : skp t k = k := if_neg he
    rw [hv]
    have c0 := M.cell 0
    have c3 := M.cell 3
    have cz := M.frozen
    simp at c0 c3
    have HM := Lib.hid M
    clear M he hv
    go_enter Try.func91, Try.ntmps91
    first | go_quiet (fail) | (go_wp2_with fail; go_quiet (fail))
    have HM2 := Lib.hid (HM.out.drewN nq)
    go_wp2
    go_end0
    refine ⟨rfl, ?_, ?_⟩
    · have := HM2.out
      simpa using this
    · exact ((Fr.refl (fun x => x = g) w).drewN nq)

theorem g_passes (c x : Int) (c0 : 0 ≤ c) (c1 : c ≤ 1099511627776) (x0 : 0 ≤ x) (x1 : x ≤ 1099511627778) (w : World) : Calls Try.prog 92 #[.int .u64 x, .int .i64 c] w fun e w' => e = .returned (.bool (pass x c)) ∧ w = w' := by
  by_cases h0 : x = 0
  · subst h0
    have hp : pass 0 c = true := decide_eq_true (.inl rfl)
    rw [hp]
    go_enter Try.func92, Try.ntmps92
    go_wp2
    go_ret
    exact ⟨rfl, rfl⟩
  · have e0 : (x == 0) = false := by simpa using h0
    by_cases h1 : x = 1
    · subst h1
      have hp : pass 1 c = false := decide_eq_false (by omega)
      rw [hp]
      clear e0
      go_enter Try.func92, Try.ntmps92
      go_wp2
      go_ret
      exact ⟨rfl, rfl⟩
    · have h2 : 2 ≤ x := by omega
      obtain ⟨p, hp⟩ : ∃ p, pass x c = p := ⟨_, rfl⟩
      have hd : decide (c ≤ x - 2) = p := by
        rw [← hp]
        unfold pass
        by_cases h : c ≤ x - 2
        · rw [decide_eq_true h, decide_eq_true (.inr ⟨h2, h⟩)]
        · rw [decide_eq_false h, decide_eq_false (by omega)]
      rw [hp]
      clear hp h0 h1
      go_enter Try.func92, Try.ntmps92
      go_wp2
      go_ret
      exact ⟨by simp, rfl⟩
theorem g_done (g : Nat) (t n l k : Int) (w : World) (M : Mem w g 91 #[.int .i64 t, .int .i64 n, .int .i64 l, .int .i64 k]) (d : Bool) (hd : Hid (d = decide (0 ≤ l ∧ n ≤ k))) : Calls Try.prog 51 #[.pointer (some ⟨g, 0, none⟩)] w fun e w' => e = .returned (.bool d) ∧ ∃ n, w' = w.drewN n := by
  have c1 := M.cell 1
  have c2 := M.cell 2
  have c3 := M.cell 3
  simp at c1 c2 c3
  clear M
  rw [hd.out]
  clear hd
  by_cases h0 : 0 ≤ l
  · obtain ⟨p, hp⟩ : ∃ p, decide (n ≤ k) = p := ⟨_, rfl⟩
    have hq : decide (0 ≤ l ∧ n ≤ k) = p := by rw [← hp]; simp [h0]
    rw [hq]
    clear hq
    go_enter Try.func51, Try.ntmps51
    first | go_quiet (fail) | (go_wp2_with fail; go_quiet (fail))
    go_wp2
    go_ret
    exact ⟨by simp, _, rfl⟩
  · have hq : decide (0 ≤ l ∧ n ≤ k) = false := by simp [h0]
    have hl : decide (0 ≤ l) = false := decide_eq_false h0
    rw [hq]
    clear hq h0
    go_enter Try.func51, Try.ntmps51
    first | go_quiet (fail) | (go_wp2_with fail; go_quiet (fail))
    go_wp2
    go_ret
    exact ⟨rfl, _, rfl⟩
theorem g_new (t n : Int) (w : World) : Calls Try.prog 49 #[.int .i64 t, .int .i64 n] w fun e w' => e = .returned (.pointer (some ⟨w.heap.size, 0, none⟩)) ∧ w' = w.alloc (.cells #[.int .i64 t, .int .i64 n, .int .i64 (-1), .int .i64 0] 91) := by
  go_enter Try.func49, Try.ntmps49
  go_wp2
  go_ret
  exact ⟨rfl, rfl⟩

theorem g_step0 {lo hi b rb : Nat} {w : World} {q : Cfg} {A B : Int → List Int} (h : Duo lo hi w b rb q A B) {g : Nat} (hg : g < lo ∨ hi ≤ g) (t n : Int) (c : Int) (hl : 0 < (B 3).length) (hx : (B 3).getD 0 0 = c) (h0 : 0 ≤ c) (h1 : c ≤ 1099511627776) (M : Mem w g 91 #[.int .i64 t, .int .i64 n, .int .i64 (-1), .int .i64 0]) : Calls Try.prog 54 #[.pointer (some ⟨g, 0, none⟩), .pointer (some ⟨rb, 0, none⟩)] w fun e w' => e = .returned (accV 1 3 0 c c true) ∧ Duo lo hi w' b rb q A B ∧ Mem w' g 91 #[.int .i64 t, .int .i64 n, .int .i64 c, .int .i64 (skp t 0)] ∧ Fr (PG lo hi g) w w' := by
  have htop := h.top
  have R0 := Lib.hid (Mem.new w 57 #[.int .i64 0, .int .i64 0, .int .i64 0, .int .u64 0, .int .u64 0, .bool false])
  have G0 := Lib.hid (M.alloc (.cells #[.int .i64 0, .int .i64 0, .int .i64 0, .int .u64 0, .int .u64 0, .bool false] 57))
  have D0 := Lib.hid (h.alloc (.cells #[.int .i64 0, .int .i64 0, .int .i64 0, .int .u64 0, .int .u64 0, .bool false] 57))
  have F0 := Lib.hid ((Fr.refl (PG lo hi g) w).alloc (.cells #[.int .i64 0, .int .i64 0, .int .i64 0, .int .u64 0, .int .u64 0, .bool false] 57))
  have hgw := M.lt
  have hrw := R0.out.lt
  clear h M
  go_enter Try.func54, Try.ntmps54
  go_upto_region 1 with (fail)
  obtain ⟨W0, hW⟩ : ∃ W', w.alloc (.cells #[.int .i64 0, .int .i64 0, .int .i64 0, .int .u64 0, .int .u64 0, .bool false] 57) = W' := ⟨_, rfl⟩
  rw [hW] at R0 G0 D0 F0
  first | rw [hW] | skip
  clear hW
  have g0_0 := Mem.cell G0.out 0
  have g0_1 := Mem.cell G0.out 1
  have g0_2 := Mem.cell G0.out 2
  have g0_3 := Mem.cell G0.out 3
  have g0_z := G0.out.frozen
  simp at g0_0 g0_1 g0_2 g0_3
  have hc := s_load D0.out 3 (by decide) 0 hl c hx
  go_upto_region 3 with ((go_at_call 75; refine hc.mono ?_; rintro e w0' ⟨rfl, hD, hS⟩))
  have R1 := Lib.hid ((Mem.of_eq R0.out (hS.block w.heap.size R0.out.lt (.inr htop))).alloc (.cells #[.int .i64 1, .int .i64 3, .int .i64 0, .int .u64 c, .int .u64 c, .bool true] 57))
  have G1 := Lib.hid ((Mem.of_eq G0.out (hS.block g G0.out.lt hg)).alloc (.cells #[.int .i64 1, .int .i64 3, .int .i64 0, .int .u64 c, .int .u64 c, .bool true] 57))
  have D1 := Lib.hid ((hD).alloc (.cells #[.int .i64 1, .int .i64 3, .int .i64 0, .int .u64 c, .int .u64 c, .bool true] 57))
  have F1 := Lib.hid ((F0.out.trans (Fr.of_stay hS fun x a c => .inl ⟨a, c⟩)).alloc (.cells #[.int .i64 1, .int .i64 3, .int .i64 0, .int .u64 c, .int .u64 c, .bool true] 57))
  have HA1 := Lib.hid (Mem.new w0' 57 #[.int .i64 1, .int .i64 3, .int .i64 0, .int .u64 c, .int .u64 c, .bool true])
  have hgat : hi ≤ w0'.heap.size := hD.top
  have hgag : g < w0'.heap.size := Nat.lt_of_lt_of_le G0.out.lt hS.size
  have hgaw : w.heap.size < w0'.heap.size := Nat.lt_of_lt_of_le R0.out.lt hS.size
  obtain ⟨ga, hga⟩ : ∃ ga, w0'.heap.size = ga := ⟨_, rfl⟩
  rw [hga] at HA1 hgat hgaw hgag
  first | rw [hga] | skip
  clear hc hD hS hga
  obtain ⟨W1, hW⟩ : ∃ W', w0'.alloc (.cells #[.int .i64 1, .int .i64 3, .int .i64 0, .int .u64 c, .int .u64 c, .bool true] 57) = W' := ⟨_, rfl⟩
  rw [hW] at R1 G1 D1 F1 HA1
  first | rw [hW] | skip
  clear hW
  clear g0_0 g0_1 g0_2 g0_3 g0_z R0 G0 D0 F0
  have g1_0 := Mem.cell G1.out 0
  have g1_1 := Mem.cell G1.out 1
  have g1_2 := Mem.cell G1.out 2
  have g1_3 := Mem.cell G1.out 3
  have g1_z := G1.out.frozen
  have a1_0 := Mem.cell HA1.out 0
  have a1_1 := Mem.cell HA1.out 1
  have a1_2 := Mem.cell HA1.out 2
  have a1_3 := Mem.cell HA1.out 3
  have a1_4 := Mem.cell HA1.out 4
  have a1_5 := Mem.cell HA1.out 5
  simp at g1_0 g1_1 g1_2 g1_3 a1_0 a1_1 a1_2 a1_3 a1_4 a1_5
  go_upto_region 4 with (fail)
  have G2 : Hid (Mem (W1.setCell ⟨g, 2, none⟩ (.int .i64 c)) g 91 #[.int .i64 t, .int .i64 n, .int .i64 c, .int .i64 0]) := Lib.hid (by have := G1.out.set_ 2 (.int .i64 c); simpa using this)
  have R2 := Lib.hid (R1.out.far (a := ⟨g, 2, none⟩) (by show w.heap.size ≠ g; omega) (.int .i64 c))
  have D2 := Lib.hid (D1.out.set_ ⟨g, 2, none⟩ hg (.int .i64 c))
  have F2 := Lib.hid (F1.out.set_ ⟨g, 2, none⟩ (.inl (.inr rfl)) (.int .i64 c))
  have HA2 := Lib.hid (HA1.out.far (a := ⟨g, 2, none⟩) (by show ga ≠ g; omega) (.int .i64 c))
  obtain ⟨W2, hW⟩ : ∃ W', W1.setCell ⟨g, 2, none⟩ (.int .i64 c) = W' := ⟨_, rfl⟩
  rw [hW] at R2 G2 D2 F2 HA2
  first | rw [hW] | skip
  clear hW
  clear g1_0 g1_1 g1_2 g1_3 a1_0 a1_1 a1_2 a1_3 a1_4 a1_5 g1_z R1 G1 D1 F1 HA1
  have g2_0 := Mem.cell G2.out 0
  have g2_1 := Mem.cell G2.out 1
  have g2_2 := Mem.cell G2.out 2
  have g2_3 := Mem.cell G2.out 3
  have g2_z := G2.out.frozen
  have a2_0 := Mem.cell HA2.out 0
  have a2_1 := Mem.cell HA2.out 1
  have a2_2 := Mem.cell HA2.out 2
  have a2_3 := Mem.cell HA2.out 3
  have a2_4 := Mem.cell HA2.out 4
  have a2_5 := Mem.cell HA2.out 5
  simp at g2_0 g2_1 g2_2 g2_3 a2_0 a2_1 a2_2 a2_3 a2_4 a2_5
  have hc := g_skip t n c 0 (by omega) (by omega) G2.out
  go_upto_region 5 with ((go_at_call 91; refine hc.mono ?_; rintro e w2' ⟨rfl, hM, hF⟩))
  have G3 : Hid (Mem w2' g 91 #[.int .i64 t, .int .i64 n, .int .i64 c, .int .i64 (skp t 0)]) := Lib.hid hM
  have R3 := Lib.hid (mem_fr R2.out hF (by omega))
  have D3 := Lib.hid (D2.out.fr hF (fun x a c => by omega))
  have F3 := Lib.hid (F2.out.then hF (fun x a c => .inr c))
  have HA3 := Lib.hid (mem_fr HA2.out hF (by omega))
  clear hc hM hF g2_0 g2_1 g2_2 g2_3 a2_0 a2_1 a2_2 a2_3 a2_4 a2_5 g2_z R2 G2 D2 F2 HA2
  have g3_0 := Mem.cell G3.out 0
  have g3_1 := Mem.cell G3.out 1
  have g3_2 := Mem.cell G3.out 2
  have g3_3 := Mem.cell G3.out 3
  have g3_z := G3.out.frozen
  have a3_0 := Mem.cell HA3.out 0
  have a3_1 := Mem.cell HA3.out 1
  have a3_2 := Mem.cell HA3.out 2
  have a3_3 := Mem.cell HA3.out 3
  have a3_4 := Mem.cell HA3.out 4
  have a3_5 := Mem.cell HA3.out 5
  simp at g3_0 g3_1 g3_2 g3_3 a3_0 a3_1 a3_2 a3_3 a3_4 a3_5
  have r0_0 := Mem.cell R3.out 0
  have r0_1 := Mem.cell R3.out 1
  have r0_2 := Mem.cell R3.out 2
  have r0_3 := Mem.cell R3.out 3
  have r0_4 := Mem.cell R3.out 4
  have r0_5 := Mem.cell R3.out 5
  have r0_z := R3.out.frozen
  go_wp2
  obtain ⟨M5, S5⟩ := store6 R3.out (.int .i64 1) (.int .i64 3) (.int .i64 0) (.int .u64 c) (.int .u64 c) (.bool true)
  have D5 := D3.out.fr (P := fun x => x = w.heap.size) (Fr.of_stay S5 fun x a c => by omega) fun x a c => by omega
  have G5 := mem_fr (P := fun x => x = w.heap.size) G3.out (Fr.of_stay S5 fun x a c => by omega) (by omega)
  have F5 := Fr.then (Q := fun x => x = w.heap.size) F3.out (Fr.of_stay S5 fun x a c => by omega) fun x a c => by omega
  obtain ⟨V, hV⟩ : ∃ V, ((((((w2'.setCell ⟨w.heap.size, 0, none⟩ (.int .i64 1)).setCell ⟨w.heap.size, 1, none⟩ (.int .i64 3)).setCell ⟨w.heap.size, 2, none⟩ (.int .i64 0)).setCell ⟨w.heap.size, 3, none⟩ (.int .u64 c)).setCell ⟨w.heap.size, 4, none⟩ (.int .u64 c)).setCell ⟨w.heap.size, 5, none⟩ (.bool true)) = V := ⟨_, rfl⟩
  rw [hV] at M5 D5 F5 G5 ⊢
  refine bodyPost_ret (v := .agg #[.int .i64 1, .int .i64 3, .int .i64 0, .int .u64 c, .int .u64 c, .bool true]) (results_cell_row rfl _ _ w.heap.size 57 #[.int .i64 1, .int .i64 3, .int .i64 0, .int .u64 c, .int .u64 c, .bool true] (0, 0) _ (by simp) M5 Try.underlying57 rfl (by kernel_rfl)) rfl ⟨rfl, D5, G5, F5⟩

theorem g_step1_yes {lo hi b rb : Nat} {w : World} {q : Cfg} {A B : Int → List Int} (h : Duo lo hi w b rb q A B) {g : Nat} (hg : g < lo ∨ hi ≤ g) (t n : Int) (i : Nat) (hlt : i < (B 6).length) (x : Int) (hx : (B 6).getD i 0 = x) (x0 : 0 ≤ x) (x1 : x ≤ 1099511627778) (c : Int) (h0 : 0 ≤ c) (h1 : c ≤ 1099511627776) (hin : (i : Int) < n) (hi9 : i ≤ 900) (hp : Hid (pass x c = true)) (M : Mem w g 91 #[.int .i64 t, .int .i64 n, .int .i64 c, .int .i64 (i : Int)]) : Calls Try.prog 54 #[.pointer (some ⟨g, 0, none⟩), .pointer (some ⟨rb, 0, none⟩)] w fun e w' => e = .returned (accV 1 6 i x x true) ∧ Duo lo hi w' b rb q A B ∧ Mem w' g 91 #[.int .i64 t, .int .i64 n, .int .i64 c, .int .i64 (skp t (i + 1))] ∧ Fr (PG lo hi g) w w' := by
  have htop := h.top
  have R0 := Lib.hid (Mem.new w 57 #[.int .i64 0, .int .i64 0, .int .i64 0, .int .u64 0, .int .u64 0, .bool false])
  have G0 := Lib.hid (M.alloc (.cells #[.int .i64 0, .int .i64 0, .int .i64 0, .int .u64 0, .int .u64 0, .bool false] 57))
  have D0 := Lib.hid (h.alloc (.cells #[.int .i64 0, .int .i64 0, .int .i64 0, .int .u64 0, .int .u64 0, .bool false] 57))
  have F0 := Lib.hid ((Fr.refl (PG lo hi g) w).alloc (.cells #[.int .i64 0, .int .i64 0, .int .i64 0, .int .u64 0, .int .u64 0, .bool false] 57))
  have hgw := M.lt
  have hrw := R0.out.lt
  clear h M
  go_enter Try.func54, Try.ntmps54
  go_upto_region 1 with (fail)
  obtain ⟨W0, hW⟩ : ∃ W', w.alloc (.cells #[.int .i64 0, .int .i64 0, .int .i64 0, .int .u64 0, .int .u64 0, .bool false] 57) = W' := ⟨_, rfl⟩
  rw [hW] at R0 G0 D0 F0
  first | rw [hW] | skip
  clear hW
  have g0_0 := Mem.cell G0.out 0
  have g0_1 := Mem.cell G0.out 1
  have g0_2 := Mem.cell G0.out 2
  have g0_3 := Mem.cell G0.out 3
  have g0_z := G0.out.frozen
  simp at g0_0 g0_1 g0_2 g0_3
  have hpd := g_done g t n c i W0 G0.out false (Lib.hid (decide_eq_false (by omega)).symm)
  have hc := hpd
  go_upto_region 8 with ((go_at_call 51; refine hc.mono ?_; rintro e w0' ⟨rfl, n0, hn⟩; subst hn))
  have R1 := Lib.hid (R0.out.drewN n0)
  have G1 := Lib.hid (G0.out.drewN n0)
  have D1 := Lib.hid (D0.out.drewN n0)
  have F1 := Lib.hid (F0.out.drewN n0)
  obtain ⟨W1, hW⟩ : ∃ W', W0.drewN n0 = W' := ⟨_, rfl⟩
  rw [hW] at R1 G1 D1 F1
  first | rw [hW] | skip
  clear hW
  clear g0_0 g0_1 g0_2 g0_3 g0_z R0 G0 D0 F0
  have g1_0 := Mem.cell G1.out 0
  have g1_1 := Mem.cell G1.out 1
  have g1_2 := Mem.cell G1.out 2
  have g1_3 := Mem.cell G1.out 3
  have g1_z := G1.out.frozen
  simp at g1_0 g1_1 g1_2 g1_3
  have hc := s_load D1.out 6 (by decide) i hlt x hx
  go_upto_region 9 with ((go_at_call 75; refine hc.mono ?_; rintro e w1' ⟨rfl, hD, hS⟩))
  have R2 := Lib.hid ((Mem.of_eq R1.out (hS.block w.heap.size R1.out.lt (.inr htop))).alloc (.cells #[.int .i64 1, .int .i64 6, .int .i64 i, .int .u64 x, .int .u64 x, .bool true] 57))
  have G2 := Lib.hid ((Mem.of_eq G1.out (hS.block g G1.out.lt hg)).alloc (.cells #[.int .i64 1, .int .i64 6, .int .i64 i, .int .u64 x, .int .u64 x, .bool true] 57))
  have D2 := Lib.hid ((hD).alloc (.cells #[.int .i64 1, .int .i64 6, .int .i64 i, .int .u64 x, .int .u64 x, .bool true] 57))
  have F2 := Lib.hid ((F1.out.trans (Fr.of_stay hS fun x a c => .inl ⟨a, c⟩)).alloc (.cells #[.int .i64 1, .int .i64 6, .int .i64 i, .int .u64 x, .int .u64 x, .bool true] 57))
  have HA2 := Lib.hid (Mem.new w1' 57 #[.int .i64 1, .int .i64 6, .int .i64 i, .int .u64 x, .int .u64 x, .bool true])
  have hgat : hi ≤ w1'.heap.size := hD.top
  have hgag : g < w1'.heap.size := Nat.lt_of_lt_of_le G1.out.lt hS.size
  have hgaw : w.heap.size < w1'.heap.size := Nat.lt_of_lt_of_le R1.out.lt hS.size
  obtain ⟨ga, hga⟩ : ∃ ga, w1'.heap.size = ga := ⟨_, rfl⟩
  rw [hga] at HA2 hgat hgaw hgag
  first | rw [hga] | skip
  clear hc hD hS hga
  obtain ⟨W2, hW⟩ : ∃ W', w1'.alloc (.cells #[.int .i64 1, .int .i64 6, .int .i64 i, .int .u64 x, .int .u64 x, .bool true] 57) = W' := ⟨_, rfl⟩
  rw [hW] at R2 G2 D2 F2 HA2
  first | rw [hW] | skip
  clear hW
  clear g1_0 g1_1 g1_2 g1_3 g1_z R1 G1 D1 F1
  have g2_0 := Mem.cell G2.out 0
  have g2_1 := Mem.cell G2.out 1
  have g2_2 := Mem.cell G2.out 2
  have g2_3 := Mem.cell G2.out 3
  have g2_z := G2.out.frozen
  have a2_0 := Mem.cell HA2.out 0
  have a2_1 := Mem.cell HA2.out 1
  have a2_2 := Mem.cell HA2.out 2
  have a2_3 := Mem.cell HA2.out 3
  have a2_4 := Mem.cell HA2.out 4
  have a2_5 := Mem.cell HA2.out 5
  simp at g2_0 g2_1 g2_2 g2_3 a2_0 a2_1 a2_2 a2_3 a2_4 a2_5
  have hp2 : pass x c = true := hp.out
  have hpc : ∀ W, Calls Try.prog 92 #[.int .u64 x, .int .i64 c] W _ := g_passes c x h0 h1 x0 x1
  rw [hp2] at hpc
  have hwi : IntKind.i64.wrap ((i : Int) + 1) = i + 1 := IntWalk.i64_in _ (by omega)
  go_region_held3 (fun W => W.cell? ⟨ga, 3, none⟩ = some (.int .u64 x) ∧ W.cell? ⟨g, 2, none⟩ = some (.int .i64 c) ∧ ∃ n, W = W2.drewN n) (first | exact ⟨a2_3, g2_2, 1, rfl⟩ | assumption) (first | (go_at_call 92; (with_reducible refine (hpc _).mono ?_); rintro e w7 ⟨rfl, rfl⟩))
  rw [show W2.drew = W2.drewN 1 from rfl]
  have R3 := Lib.hid (R2.out.drewN 1)
  have G3 := Lib.hid (G2.out.drewN 1)
  have D3 := Lib.hid (D2.out.drewN 1)
  have F3 := Lib.hid (F2.out.drewN 1)
  have HA3 := Lib.hid (HA2.out.drewN 1)
  obtain ⟨W3, hW⟩ : ∃ W', W2.drewN 1 = W' := ⟨_, rfl⟩
  rw [hW] at R3 G3 D3 F3 HA3
  first | rw [hW] | skip
  clear hW
  clear g2_0 g2_1 g2_2 g2_3 a2_0 a2_1 a2_2 a2_3 a2_4 a2_5 g2_z R2 G2 D2 F2 HA2
  have g3_0 := Mem.cell G3.out 0
  have g3_1 := Mem.cell G3.out 1
  have g3_2 := Mem.cell G3.out 2
  have g3_3 := Mem.cell G3.out 3
  have g3_z := G3.out.frozen
  have a3_0 := Mem.cell HA3.out 0
  have a3_1 := Mem.cell HA3.out 1
  have a3_2 := Mem.cell HA3.out 2
  have a3_3 := Mem.cell HA3.out 3
  have a3_4 := Mem.cell HA3.out 4
  have a3_5 := Mem.cell HA3.out 5
  simp at g3_0 g3_1 g3_2 g3_3 a3_0 a3_1 a3_2 a3_3 a3_4 a3_5
  go_upto_region 11 with (fail)
  have G4 : Hid (Mem (W3.setCell ⟨g, 3, none⟩ (.int .i64 ((i : Int) + 1))) g 91 #[.int .i64 t, .int .i64 n, .int .i64 c, .int .i64 ((i : Int) + 1)]) := Lib.hid (by have := G3.out.set_ 3 (.int .i64 ((i : Int) + 1)); simpa using this)
  have R4 := Lib.hid (R3.out.far (a := ⟨g, 3, none⟩) (by show w.heap.size ≠ g; omega) (.int .i64 ((i : Int) + 1)))
  have D4 := Lib.hid (D3.out.set_ ⟨g, 3, none⟩ hg (.int .i64 ((i : Int) + 1)))
  have F4 := Lib.hid (F3.out.set_ ⟨g, 3, none⟩ (.inl (.inr rfl)) (.int .i64 ((i : Int) + 1)))
  have HA4 := Lib.hid (HA3.out.far (a := ⟨g, 3, none⟩) (by show ga ≠ g; omega) (.int .i64 ((i : Int) + 1)))
  obtain ⟨W4, hW⟩ : ∃ W', W3.setCell ⟨g, 3, none⟩ (.int .i64 ((i : Int) + 1)) = W' := ⟨_, rfl⟩
  rw [hW] at R4 G4 D4 F4 HA4
  first | rw [hW] | skip
  clear hW
  clear g3_0 g3_1 g3_2 g3_3 a3_0 a3_1 a3_2 a3_3 a3_4 a3_5 g3_z R3 G3 D3 F3 HA3
  have g4_0 := Mem.cell G4.out 0
  have g4_1 := Mem.cell G4.out 1
  have g4_2 := Mem.cell G4.out 2
  have g4_3 := Mem.cell G4.out 3
  have g4_z := G4.out.frozen
  have a4_0 := Mem.cell HA4.out 0
  have a4_1 := Mem.cell HA4.out 1
  have a4_2 := Mem.cell HA4.out 2
  have a4_3 := Mem.cell HA4.out 3
  have a4_4 := Mem.cell HA4.out 4
  have a4_5 := Mem.cell HA4.out 5
  simp at g4_0 g4_1 g4_2 g4_3 a4_0 a4_1 a4_2 a4_3 a4_4 a4_5
  have hc := g_skip t n c (i + 1) (by omega) (by omega) G4.out
  go_upto_region 12 with ((go_at_call 91; refine hc.mono ?_; rintro e w4' ⟨rfl, hM, hF⟩))
  have G5 : Hid (Mem w4' g 91 #[.int .i64 t, .int .i64 n, .int .i64 c, .int .i64 (skp t (i + 1))]) := Lib.hid hM
  have R5 := Lib.hid (mem_fr R4.out hF (by omega))
  have D5 := Lib.hid (D4.out.fr hF (fun x a c => by omega))
  have F5 := Lib.hid (F4.out.then hF (fun x a c => .inr c))
  have HA5 := Lib.hid (mem_fr HA4.out hF (by omega))
  clear hc hM hF g4_0 g4_1 g4_2 g4_3 a4_0 a4_1 a4_2 a4_3 a4_4 a4_5 g4_z R4 G4 D4 F4 HA4
  have g5_0 := Mem.cell G5.out 0
  have g5_1 := Mem.cell G5.out 1
  have g5_2 := Mem.cell G5.out 2
  have g5_3 := Mem.cell G5.out 3
  have g5_z := G5.out.frozen
  have a5_0 := Mem.cell HA5.out 0
  have a5_1 := Mem.cell HA5.out 1
  have a5_2 := Mem.cell HA5.out 2
  have a5_3 := Mem.cell HA5.out 3
  have a5_4 := Mem.cell HA5.out 4
  have a5_5 := Mem.cell HA5.out 5
  simp at g5_0 g5_1 g5_2 g5_3 a5_0 a5_1 a5_2 a5_3 a5_4 a5_5
  have r0_0 := Mem.cell R5.out 0
  have r0_1 := Mem.cell R5.out 1
  have r0_2 := Mem.cell R5.out 2
  have r0_3 := Mem.cell R5.out 3
  have r0_4 := Mem.cell R5.out 4
  have r0_5 := Mem.cell R5.out 5
  have r0_z := R5.out.frozen
  go_wp2
  obtain ⟨M5, S5⟩ := store6 R5.out (.int .i64 1) (.int .i64 6) (.int .i64 i) (.int .u64 x) (.int .u64 x) (.bool true)
  have D5 := D5.out.fr (P := fun x => x = w.heap.size) (Fr.of_stay S5 fun x a c => by omega) fun x a c => by omega
  have G5 := mem_fr (P := fun x => x = w.heap.size) G5.out (Fr.of_stay S5 fun x a c => by omega) (by omega)
  have F5 := Fr.then (Q := fun x => x = w.heap.size) F5.out (Fr.of_stay S5 fun x a c => by omega) fun x a c => by omega
  obtain ⟨V, hV⟩ : ∃ V, ((((((w4'.setCell ⟨w.heap.size, 0, none⟩ (.int .i64 1)).setCell ⟨w.heap.size, 1, none⟩ (.int .i64 6)).setCell ⟨w.heap.size, 2, none⟩ (.int .i64 i)).setCell ⟨w.heap.size, 3, none⟩ (.int .u64 x)).setCell ⟨w.heap.size, 4, none⟩ (.int .u64 x)).setCell ⟨w.heap.size, 5, none⟩ (.bool true)) = V := ⟨_, rfl⟩
  rw [hV] at M5 D5 F5 G5 ⊢
  refine bodyPost_ret (v := .agg #[.int .i64 1, .int .i64 6, .int .i64 i, .int .u64 x, .int .u64 x, .bool true]) (results_cell_row rfl _ _ w.heap.size 57 #[.int .i64 1, .int .i64 6, .int .i64 i, .int .u64 x, .int .u64 x, .bool true] (0, 0) _ (by simp) M5 Try.underlying57 rfl (by kernel_rfl)) rfl ⟨rfl, D5, G5, F5⟩

theorem g_step1_no {lo hi b rb : Nat} {w : World} {q : Cfg} {A B : Int → List Int} (h : Duo lo hi w b rb q A B) {g : Nat} (hg : g < lo ∨ hi ≤ g) (t n : Int) (i : Nat) (hlt : i < (B 6).length) (x : Int) (hx : (B 6).getD i 0 = x) (x0 : 0 ≤ x) (x1 : x ≤ 1099511627778) (c : Int) (h0 : 0 ≤ c) (h1 : c ≤ 1099511627776) (hin : (i : Int) < n) (hi9 : i ≤ 900) (hp : Hid (pass x c = false)) (M : Mem w g 91 #[.int .i64 t, .int .i64 n, .int .i64 c, .int .i64 (i : Int)]) : Calls Try.prog 54 #[.pointer (some ⟨g, 0, none⟩), .pointer (some ⟨rb, 0, none⟩)] w fun e w' => e = .returned (accV 1 6 i x x true) ∧ Duo lo hi w' b rb q A B ∧ Mem w' g 91 #[.int .i64 t, .int .i64 n, .int .i64 c, .int .i64 (i : Int)] ∧ Fr (PG lo hi g) w w' := by
  have htop := h.top
  have R0 := Lib.hid (Mem.new w 57 #[.int .i64 0, .int .i64 0, .int .i64 0, .int .u64 0, .int .u64 0, .bool false])
  have G0 := Lib.hid (M.alloc (.cells #[.int .i64 0, .int .i64 0, .int .i64 0, .int .u64 0, .int .u64 0, .bool false] 57))
  have D0 := Lib.hid (h.alloc (.cells #[.int .i64 0, .int .i64 0, .int .i64 0, .int .u64 0, .int .u64 0, .bool false] 57))
  have F0 := Lib.hid ((Fr.refl (PG lo hi g) w).alloc (.cells #[.int .i64 0, .int .i64 0, .int .i64 0, .int .u64 0, .int .u64 0, .bool false] 57))
  have hgw := M.lt
  have hrw := R0.out.lt
  clear h M
  go_enter Try.func54, Try.ntmps54
  go_upto_region 1 with (fail)
  obtain ⟨W0, hW⟩ : ∃ W', w.alloc (.cells #[.int .i64 0, .int .i64 0, .int .i64 0, .int .u64 0, .int .u64 0, .bool false] 57) = W' := ⟨_, rfl⟩
  rw [hW] at R0 G0 D0 F0
  first | rw [hW] | skip
  clear hW
  have g0_0 := Mem.cell G0.out 0
  have g0_1 := Mem.cell G0.out 1
  have g0_2 := Mem.cell G0.out 2
  have g0_3 := Mem.cell G0.out 3
  have g0_z := G0.out.frozen
  simp at g0_0 g0_1 g0_2 g0_3
  have hpd := g_done g t n c i W0 G0.out false (Lib.hid (decide_eq_false (by omega)).symm)
  have hc := hpd
  go_upto_region 8 with ((go_at_call 51; refine hc.mono ?_; rintro e w0' ⟨rfl, n0, hn⟩; subst hn))
  have R1 := Lib.hid (R0.out.drewN n0)
  have G1 := Lib.hid (G0.out.drewN n0)
  have D1 := Lib.hid (D0.out.drewN n0)
  have F1 := Lib.hid (F0.out.drewN n0)
  obtain ⟨W1, hW⟩ : ∃ W', W0.drewN n0 = W' := ⟨_, rfl⟩
  rw [hW] at R1 G1 D1 F1
  first | rw [hW] | skip
  clear hW
  clear g0_0 g0_1 g0_2 g0_3 g0_z R0 G0 D0 F0
  have g1_0 := Mem.cell G1.out 0
  have g1_1 := Mem.cell G1.out 1
  have g1_2 := Mem.cell G1.out 2
  have g1_3 := Mem.cell G1.out 3
  have g1_z := G1.out.frozen
  simp at g1_0 g1_1 g1_2 g1_3
  have hc := s_load D1.out 6 (by decide) i hlt x hx
  go_upto_region 9 with ((go_at_call 75; refine hc.mono ?_; rintro e w1' ⟨rfl, hD, hS⟩))
  have R2 := Lib.hid ((Mem.of_eq R1.out (hS.block w.heap.size R1.out.lt (.inr htop))).alloc (.cells #[.int .i64 1, .int .i64 6, .int .i64 i, .int .u64 x, .int .u64 x, .bool true] 57))
  have G2 := Lib.hid ((Mem.of_eq G1.out (hS.block g G1.out.lt hg)).alloc (.cells #[.int .i64 1, .int .i64 6, .int .i64 i, .int .u64 x, .int .u64 x, .bool true] 57))
  have D2 := Lib.hid ((hD).alloc (.cells #[.int .i64 1, .int .i64 6, .int .i64 i, .int .u64 x, .int .u64 x, .bool true] 57))
  have F2 := Lib.hid ((F1.out.trans (Fr.of_stay hS fun x a c => .inl ⟨a, c⟩)).alloc (.cells #[.int .i64 1, .int .i64 6, .int .i64 i, .int .u64 x, .int .u64 x, .bool true] 57))
  have HA2 := Lib.hid (Mem.new w1' 57 #[.int .i64 1, .int .i64 6, .int .i64 i, .int .u64 x, .int .u64 x, .bool true])
  have hgat : hi ≤ w1'.heap.size := hD.top
  have hgag : g < w1'.heap.size := Nat.lt_of_lt_of_le G1.out.lt hS.size
  have hgaw : w.heap.size < w1'.heap.size := Nat.lt_of_lt_of_le R1.out.lt hS.size
  obtain ⟨ga, hga⟩ : ∃ ga, w1'.heap.size = ga := ⟨_, rfl⟩
  rw [hga] at HA2 hgat hgaw hgag
  first | rw [hga] | skip
  clear hc hD hS hga
  obtain ⟨W2, hW⟩ : ∃ W', w1'.alloc (.cells #[.int .i64 1, .int .i64 6, .int .i64 i, .int .u64 x, .int .u64 x, .bool true] 57) = W' := ⟨_, rfl⟩
  rw [hW] at R2 G2 D2 F2 HA2
  first | rw [hW] | skip
  clear hW
  clear g1_0 g1_1 g1_2 g1_3 g1_z R1 G1 D1 F1
  have g2_0 := Mem.cell G2.out 0
  have g2_1 := Mem.cell G2.out 1
  have g2_2 := Mem.cell G2.out 2
  have g2_3 := Mem.cell G2.out 3
  have g2_z := G2.out.frozen
  have a2_0 := Mem.cell HA2.out 0
  have a2_1 := Mem.cell HA2.out 1
  have a2_2 := Mem.cell HA2.out 2
  have a2_3 := Mem.cell HA2.out 3
  have a2_4 := Mem.cell HA2.out 4
  have a2_5 := Mem.cell HA2.out 5
  simp at g2_0 g2_1 g2_2 g2_3 a2_0 a2_1 a2_2 a2_3 a2_4 a2_5
  have hp2 : pass x c = false := hp.out
  have hpc : ∀ W, Calls Try.prog 92 #[.int .u64 x, .int .i64 c] W _ := g_passes c x h0 h1 x0 x1
  rw [hp2] at hpc
  have hwi : IntKind.i64.wrap ((i : Int) + 1) = i + 1 := IntWalk.i64_in _ (by omega)
  go_region_held3 (fun W => W.cell? ⟨ga, 3, none⟩ = some (.int .u64 x) ∧ W.cell? ⟨g, 2, none⟩ = some (.int .i64 c) ∧ ∃ n, W = W2.drewN n) (first | exact ⟨a2_3, g2_2, 1, rfl⟩ | assumption) (first | (go_at_call 92; (with_reducible refine (hpc _).mono ?_); rintro e w7 ⟨rfl, rfl⟩))
  rw [show W2.drew = W2.drewN 1 from rfl]
  have R3 := Lib.hid (R2.out.drewN 1)
  have G3 := Lib.hid (G2.out.drewN 1)
  have D3 := Lib.hid (D2.out.drewN 1)
  have F3 := Lib.hid (F2.out.drewN 1)
  have HA3 := Lib.hid (HA2.out.drewN 1)
  obtain ⟨W3, hW⟩ : ∃ W', W2.drewN 1 = W' := ⟨_, rfl⟩
  rw [hW] at R3 G3 D3 F3 HA3
  first | rw [hW] | skip
  clear hW
  clear g2_0 g2_1 g2_2 g2_3 a2_0 a2_1 a2_2 a2_3 a2_4 a2_5 g2_z R2 G2 D2 F2 HA2
  have g3_0 := Mem.cell G3.out 0
  have g3_1 := Mem.cell G3.out 1
  have g3_2 := Mem.cell G3.out 2
  have g3_3 := Mem.cell G3.out 3
  have g3_z := G3.out.frozen
  have a3_0 := Mem.cell HA3.out 0
  have a3_1 := Mem.cell HA3.out 1
  have a3_2 := Mem.cell HA3.out 2
  have a3_3 := Mem.cell HA3.out 3
  have a3_4 := Mem.cell HA3.out 4
  have a3_5 := Mem.cell HA3.out 5
  simp at g3_0 g3_1 g3_2 g3_3 a3_0 a3_1 a3_2 a3_3 a3_4 a3_5
  have r0_0 := Mem.cell R3.out 0
  have r0_1 := Mem.cell R3.out 1
  have r0_2 := Mem.cell R3.out 2
  have r0_3 := Mem.cell R3.out 3
  have r0_4 := Mem.cell R3.out 4
  have r0_5 := Mem.cell R3.out 5
  have r0_z := R3.out.frozen
  go_wp2
  obtain ⟨M5, S5⟩ := store6 R3.out (.int .i64 1) (.int .i64 6) (.int .i64 i) (.int .u64 x) (.int .u64 x) (.bool true)
  have D5 := D3.out.fr (P := fun x => x = w.heap.size) (Fr.of_stay S5 fun x a c => by omega) fun x a c => by omega
  have G5 := mem_fr (P := fun x => x = w.heap.size) G3.out (Fr.of_stay S5 fun x a c => by omega) (by omega)
  have F5 := Fr.then (Q := fun x => x = w.heap.size) F3.out (Fr.of_stay S5 fun x a c => by omega) fun x a c => by omega
  obtain ⟨V, hV⟩ : ∃ V, ((((((W3.setCell ⟨w.heap.size, 0, none⟩ (.int .i64 1)).setCell ⟨w.heap.size, 1, none⟩ (.int .i64 6)).setCell ⟨w.heap.size, 2, none⟩ (.int .i64 i)).setCell ⟨w.heap.size, 3, none⟩ (.int .u64 x)).setCell ⟨w.heap.size, 4, none⟩ (.int .u64 x)).setCell ⟨w.heap.size, 5, none⟩ (.bool true)) = V := ⟨_, rfl⟩
  rw [hV] at M5 D5 F5 G5 ⊢
  refine bodyPost_ret (v := .agg #[.int .i64 1, .int .i64 6, .int .i64 i, .int .u64 x, .int .u64 x, .bool true]) (results_cell_row rfl _ _ w.heap.size 57 #[.int .i64 1, .int .i64 6, .int .i64 i, .int .u64 x, .int .u64 x, .bool true] (0, 0) _ (by simp) M5 Try.underlying57 rfl (by kernel_rfl)) rfl ⟨rfl, D5, G5, F5⟩

theorem g_step2 {lo hi b rb : Nat} {w : World} {q : Cfg} {A B : Int → List Int} (h : Duo lo hi w b rb q A B) {g : Nat} (hg : g < lo ∨ hi ≤ g) (t n c k : Int) (h0 : 0 ≤ c) (hnk : n ≤ k) (M : Mem w g 91 #[.int .i64 t, .int .i64 n, .int .i64 c, .int .i64 k]) : Calls Try.prog 54 #[.pointer (some ⟨g, 0, none⟩), .pointer (some ⟨rb, 0, none⟩)] w fun e w' => e = .returned (accV 0 0 0 0 0 false) ∧ Duo lo hi w' b rb q A B ∧ Mem w' g 91 #[.int .i64 t, .int .i64 n, .int .i64 c, .int .i64 k] ∧ Fr (PG lo hi g) w w' := by
  have htop := h.top
  have R0 := Lib.hid (Mem.new w 57 #[.int .i64 0, .int .i64 0, .int .i64 0, .int .u64 0, .int .u64 0, .bool false])
  have G0 := Lib.hid (M.alloc (.cells #[.int .i64 0, .int .i64 0, .int .i64 0, .int .u64 0, .int .u64 0, .bool false] 57))
  have D0 := Lib.hid (h.alloc (.cells #[.int .i64 0, .int .i64 0, .int .i64 0, .int .u64 0, .int .u64 0, .bool false] 57))
  have F0 := Lib.hid ((Fr.refl (PG lo hi g) w).alloc (.cells #[.int .i64 0, .int .i64 0, .int .i64 0, .int .u64 0, .int .u64 0, .bool false] 57))
  have hgw := M.lt
  have hrw := R0.out.lt
  clear h M
  go_enter Try.func54, Try.ntmps54
  go_upto_region 1 with (fail)
  obtain ⟨W0, hW⟩ : ∃ W', w.alloc (.cells #[.int .i64 0, .int .i64 0, .int .i64 0, .int .u64 0, .int .u64 0, .bool false] 57) = W' := ⟨_, rfl⟩
  rw [hW] at R0 G0 D0 F0
  first | rw [hW] | skip
  clear hW
  have g0_0 := Mem.cell G0.out 0
  have g0_1 := Mem.cell G0.out 1
  have g0_2 := Mem.cell G0.out 2
  have g0_3 := Mem.cell G0.out 3
  have g0_z := G0.out.frozen
  simp at g0_0 g0_1 g0_2 g0_3
  have hpd := g_done g t n c k W0 G0.out true (Lib.hid (decide_eq_true ⟨h0, hnk⟩).symm)
  have hc := hpd
  go_upto_region 7 with ((go_at_call 51; refine hc.mono ?_; rintro e w0' ⟨rfl, n0, hn⟩; subst hn))
  have R1 := Lib.hid (R0.out.drewN n0)
  have G1 := Lib.hid (G0.out.drewN n0)
  have D1 := Lib.hid (D0.out.drewN n0)
  have F1 := Lib.hid (F0.out.drewN n0)
  obtain ⟨W1, hW⟩ : ∃ W', W0.drewN n0 = W' := ⟨_, rfl⟩
  rw [hW] at R1 G1 D1 F1
  first | rw [hW] | skip
  clear hW
  clear g0_0 g0_1 g0_2 g0_3 g0_z R0 G0 D0 F0
  have g1_0 := Mem.cell G1.out 0
  have g1_1 := Mem.cell G1.out 1
  have g1_2 := Mem.cell G1.out 2
  have g1_3 := Mem.cell G1.out 3
  have g1_z := G1.out.frozen
  simp at g1_0 g1_1 g1_2 g1_3
  have r0_0 := Mem.cell R1.out 0
  have r0_1 := Mem.cell R1.out 1
  have r0_2 := Mem.cell R1.out 2
  have r0_3 := Mem.cell R1.out 3
  have r0_4 := Mem.cell R1.out 4
  have r0_5 := Mem.cell R1.out 5
  have r0_z := R1.out.frozen
  go_wp2
  obtain ⟨M5, S5⟩ := store6 R1.out (.int .i64 0) (.int .i64 0) (.int .i64 0) (.int .u64 0) (.int .u64 0) (.bool false)
  have D5 := D1.out.fr (P := fun x => x = w.heap.size) (Fr.of_stay S5 fun x a c => by omega) fun x a c => by omega
  have G5 := mem_fr (P := fun x => x = w.heap.size) G1.out (Fr.of_stay S5 fun x a c => by omega) (by omega)
  have F5 := Fr.then (Q := fun x => x = w.heap.size) F1.out (Fr.of_stay S5 fun x a c => by omega) fun x a c => by omega
  obtain ⟨V, hV⟩ : ∃ V, ((((((W1.setCell ⟨w.heap.size, 0, none⟩ (.int .i64 0)).setCell ⟨w.heap.size, 1, none⟩ (.int .i64 0)).setCell ⟨w.heap.size, 2, none⟩ (.int .i64 0)).setCell ⟨w.heap.size, 3, none⟩ (.int .u64 0)).setCell ⟨w.heap.size, 4, none⟩ (.int .u64 0)).setCell ⟨w.heap.size, 5, none⟩ (.bool false)) = V := ⟨_, rfl⟩
  rw [hV] at M5 D5 F5 G5 ⊢
  refine bodyPost_ret (v := .agg #[.int .i64 0, .int .i64 0, .int .i64 0, .int .u64 0, .int .u64 0, .bool false]) (results_cell_row rfl _ _ w.heap.size 57 #[.int .i64 0, .int .i64 0, .int .i64 0, .int .u64 0, .int .u64 0, .bool false] (0, 0) _ (by simp) M5 Try.underlying57 rfl (by kernel_rfl)) rfl ⟨rfl, D5, G5, F5⟩

end Go.Proofs.Ythgbfghhiadjpaa.EpoG
