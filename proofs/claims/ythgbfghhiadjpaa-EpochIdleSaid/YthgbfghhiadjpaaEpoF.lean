/-
  Contracts of package epoch: Fence.
-/
import Derived.Test.YthgbfghhiadjpaaEpoA
namespace Go.Proofs.Ythgbfghhiadjpaa.EpoF
open Go.ChangeShapes Go.WideShapes Go.ChangeAt Go.RowKit
open PlainT BlkW LayS LayA CelS CelM CelP CelV CelN CelO CelF LabD LabR LabP LabS WordC EpoA
set_option linter.unusedVariables false
set_option maxHeartbeats 1000000
set_option maxRecDepth 100000

/-- The next thread that is watched. -/
def skp (t k : Int) : Int := if k = t then k + 1 else k
/-- The state of a fence that watches k of n threads. -/
def fsv (n k : Int) : Int := if n ≤ k then 2 else 1
/-- A slot lets a fence pass. -/
def pass (x c : Int) : Bool := decide (x = 0 ∨ (2 ≤ x ∧ c ≤ x - 2))

theorem f_watch {w : World} {g : Nat} (st t n wd l k : Int) (k0 : 0 ≤ k) (k1 : k ≤ 1000) (M : Mem w g 129 #[.int .i64 st, .int .i64 t, .int .i64 n, .int .i64 wd, .int .i64 l]) : Calls Try.prog 89 #[.pointer (some ⟨g, 0, none⟩), .int .i64 k] w fun e w' => e = .returned (.tuple #[]) ∧ Mem w' g 129 #[.int .i64 (fsv n (skp t k)), .int .i64 t, .int .i64 n, .int .i64 (skp t k), .int .i64 l] ∧ Fr (fun x => x = g) w w' := by
  by_cases he : k = t <;> by_cases hge : n ≤ (if k = t then k + 1 else k) <;> (first | rw [if_pos he] at hge | rw [if_neg he] at hge)
  · have e1 : (k == t) = true := by simpa using he
    have hw : IntKind.i64.wrap (k + 1) = k + 1 := IntWalk.i64_in _ (by omega)
    have hn : n ≤ k + 1 := by omega
    have hv : skp t k = k + 1 := if_pos he
    have hv2 : fsv n (k + 1) = 2 := if_pos (by omega)
    rw [hv, hv2]
    have c0 := M.cell 0
    have c1 := M.cell 1
    have c2 := M.cell 2
    have c3 := M.cell 3
    have cz := M.frozen
    simp at c0 c1 c2 c3
    have HM := Lib.hid M
    clear M he hge hv hv2
    go_enter Try.func89, Try.ntmps89
    go_wp2
    go_end0
    refine ⟨rfl, ?_, ?_⟩
    · have := ((HM.out.set_ 3 (.int .i64 (k + 1))).set_ 0 (.int .i64 1)).set_ 0 (.int .i64 2)
      simpa using this
    · exact (((Fr.refl (fun x => x = g) w).set_ ⟨g, 3, none⟩ (.inl rfl) _).set_ ⟨g, 0, none⟩ (.inl rfl) _).set_ ⟨g, 0, none⟩ (.inl rfl) _
  · have e1 : (k == t) = true := by simpa using he
    have hw : IntKind.i64.wrap (k + 1) = k + 1 := IntWalk.i64_in _ (by omega)
    have hn : k + 1 < n := by omega
    have hv : skp t k = k + 1 := if_pos he
    have hv2 : fsv n (k + 1) = 1 := if_neg (by omega)
    rw [hv, hv2]
    have c0 := M.cell 0
    have c1 := M.cell 1
    have c2 := M.cell 2
    have c3 := M.cell 3
    have cz := M.frozen
    simp at c0 c1 c2 c3
    have HM := Lib.hid M
    clear M he hge hv hv2
    go_enter Try.func89, Try.ntmps89
    go_wp2
    go_end0
    refine ⟨rfl, ?_, ?_⟩
    · have := ((HM.out.set_ 3 (.int .i64 (k + 1))).set_ 0 (.int .i64 1))
      simpa using this
    · exact (((Fr.refl (fun x => x = g) w).set_ ⟨g, 3, none⟩ (.inl rfl) _).set_ ⟨g, 0, none⟩ (.inl rfl) _)
  · have e1 : (k == t) = false := by simpa using he
    have hw : IntKind.i64.wrap (k + 1) = k + 1 := IntWalk.i64_in _ (by omega)
    have hn : n ≤ k := by omega
    have hv : skp t k = k := if_neg he
    have hv2 : fsv n (k) = 2 := if_pos (by omega)
    rw [hv, hv2]
    have c0 := M.cell 0
    have c1 := M.cell 1
    have c2 := M.cell 2
    have c3 := M.cell 3
    have cz := M.frozen
    simp at c0 c1 c2 c3
    have HM := Lib.hid M
    clear M he hge hv hv2
    go_enter Try.func89, Try.ntmps89
    go_wp2
    go_end0
    refine ⟨rfl, ?_, ?_⟩
    · have := ((HM.out.set_ 3 (.int .i64 (k))).set_ 0 (.int .i64 1)).set_ 0 (.int .i64 2)
      simpa using this
    · exact (((Fr.refl (fun x => x = g) w).set_ ⟨g, 3, none⟩ (.inl rfl) _).set_ ⟨g, 0, none⟩ (.inl rfl) _).set_ ⟨g, 0, none⟩ (.inl rfl) _
  · have e1 : (k == t) = false := by simpa using he
    have hw : IntKind.i64.wrap (k + 1) = k + 1 := IntWalk.i64_in _ (by omega)
    have hn : k < n := by omega
    have hv : skp t k = k := if_neg he
    have hv2 : fsv n (k) = 1 := if_neg (by omega)
    rw [hv, hv2]
    have c0 := M.cell 0
    have c1 := M.cell 1
    have c2 := M.cell 2
    have c3 := M.cell 3
    have cz := M.frozen
    simp at c0 c1 c2 c3
    have HM := Lib.hid M
    clear M he hge hv hv2
    go_enter Try.func89, Try.ntmps89
    go_wp2
    go_end0
    refine ⟨rfl, ?_, ?_⟩
    · have := ((HM.out.set_ 3 (.int .i64 (k))).set_ 0 (.int .i64 1))
      simpa using this
    · exact (((Fr.refl (fun x => x = g) w).set_ ⟨g, 3, none⟩ (.inl rfl) _).set_ ⟨g, 0, none⟩ (.inl rfl) _)

theorem f_passes {w : World} {g : Nat} (st t n wd c x : Int) (c0 : 0 ≤ c) (x0 : 0 ≤ x) (x1 : x ≤ 1099511627778) (M : Mem w g 129 #[.int .i64 st, .int .i64 t, .int .i64 n, .int .i64 wd, .int .i64 c]) : Calls Try.prog 90 #[.pointer (some ⟨g, 0, none⟩), .int .u64 x] w fun e w' => e = .returned (.bool (pass x c)) ∧ ∃ n, w' = w.drewN n := by
  have c4 := M.cell 4
  simp at c4
  clear M
  by_cases h0 : x = 0
  · subst h0
    have hp : pass 0 c = true := decide_eq_true (.inl rfl)
    rw [hp]
    go_enter Try.func90, Try.ntmps90
    go_wp2_with fail
    first | go_region_law (go_simp; go_at_call 104; (with_reducible refine (w_state0 _).mono ?_); rintro e w1 ⟨rfl, rfl⟩) | fail
    all_goals
      go_wp2
      go_ret
      exact ⟨rfl, _, rfl⟩
  · by_cases h1 : x = 1
    · subst h1
      have hp : pass 1 c = false := decide_eq_false (by omega)
      have hd : decide (c ≤ -1) = false := decide_eq_false (by omega)
      rw [hp]
      go_enter Try.func90, Try.ntmps90
      go_wp2_with fail
      go_region_held3 (fun W => W.cell? ⟨g, 4, none⟩ = some (.int .i64 c) ∧ ∃ n, W = w.drewN n) (first | exact ⟨c4, 1, rfl⟩ | assumption) (first | (go_at_call 104; (with_reducible refine (w_state1 _).mono ?_); rintro e w1 ⟨rfl, rfl⟩) | (go_at_call 105; (with_reducible refine (w_snap_no 1 (by omega) (by omega) (by omega) _).mono ?_); rintro e w1 ⟨rfl, rfl⟩))
      all_goals
        go_wp2
        go_ret
        exact ⟨by simp, _, rfl⟩
    · have h2 : 2 ≤ x := by omega
      obtain ⟨p, hp⟩ : ∃ p, pass x c = p := ⟨_, rfl⟩
      have hd : decide (c ≤ x - 2) = p := by
        rw [← hp]
        unfold pass
        by_cases h : c ≤ x - 2
        · rw [decide_eq_true h, decide_eq_true (.inr ⟨h2, h⟩)]
        · rw [decide_eq_false h, decide_eq_false (by omega)]
      rw [hp]
      clear hp
      go_enter Try.func90, Try.ntmps90
      go_wp2_with fail
      go_region_held3 (fun W => W.cell? ⟨g, 4, none⟩ = some (.int .i64 c) ∧ ∃ n, W = w.drewN n) (first | exact ⟨c4, 1, rfl⟩ | assumption) (first | (go_at_call 104; (with_reducible refine (w_state2 x h2 (by omega) _).mono ?_); rintro e w1 ⟨rfl, rfl⟩) | (go_at_call 105; (with_reducible refine (w_snap x h2 x1 _).mono ?_); rintro e w1 ⟨rfl, rfl⟩))
      all_goals
        go_wp2
        go_ret
        exact ⟨by simp, _, rfl⟩

theorem f_step0 {lo hi b rb : Nat} {w : World} {q : Cfg} {A B : Int → List Int} (h : Duo lo hi w b rb q A B) {g : Nat} (hg : g < lo ∨ hi ≤ g) (t n : Int) (c : Int) (hl : 0 < (A 3).length) (hx : (A 3).getD 0 0 = c) (h0 : 0 ≤ c) (h1 : c ≤ 1099511627776) (M : Mem w g 129 #[.int .i64 0, .int .i64 t, .int .i64 n, .int .i64 0, .int .i64 (-1)]) : Calls Try.prog 53 #[.pointer (some ⟨g, 0, none⟩), .pointer (some ⟨b, 0, none⟩)] w fun e w' => e = .returned (accV 1 3 0 c c true) ∧ Duo lo hi w' b rb q A B ∧ Mem w' g 129 #[.int .i64 (fsv n (skp t 0)), .int .i64 t, .int .i64 n, .int .i64 (skp t 0), .int .i64 c] ∧ Fr (PG lo hi g) w w' := by
  have htop := h.top
  have R0 := Lib.hid (Mem.new w 57 #[.int .i64 0, .int .i64 0, .int .i64 0, .int .u64 0, .int .u64 0, .bool false])
  have G0 := Lib.hid (M.alloc (.cells #[.int .i64 0, .int .i64 0, .int .i64 0, .int .u64 0, .int .u64 0, .bool false] 57))
  have D0 := Lib.hid (h.alloc (.cells #[.int .i64 0, .int .i64 0, .int .i64 0, .int .u64 0, .int .u64 0, .bool false] 57))
  have F0 := Lib.hid ((Fr.refl (PG lo hi g) w).alloc (.cells #[.int .i64 0, .int .i64 0, .int .i64 0, .int .u64 0, .int .u64 0, .bool false] 57))
  have hgw := M.lt
  have hrw := R0.out.lt
  clear h M
  go_enter Try.func53, Try.ntmps53
  go_upto_region 1 with (fail)
  obtain ⟨W0, hW⟩ : ∃ W', w.alloc (.cells #[.int .i64 0, .int .i64 0, .int .i64 0, .int .u64 0, .int .u64 0, .bool false] 57) = W' := ⟨_, rfl⟩
  rw [hW] at R0 G0 D0 F0
  first | rw [hW] | skip
  clear hW
  have g0_0 := Mem.cell G0.out 0
  have g0_1 := Mem.cell G0.out 1
  have g0_2 := Mem.cell G0.out 2
  have g0_3 := Mem.cell G0.out 3
  have g0_4 := Mem.cell G0.out 4
  have g0_z := G0.out.frozen
  simp at g0_0 g0_1 g0_2 g0_3 g0_4
  have hc := e_load D0.out 3 (by decide) 0 hl c hx
  go_upto_region 4 with ((go_at_call 86; refine hc.mono ?_; rintro e w0' ⟨rfl, hD, hS⟩))
  have R1 := Lib.hid ((Mem.of_eq R0.out (hS.block w.heap.size R0.out.lt (.inr htop))).alloc (.cells #[.int .i64 1, .int .i64 3, .int .i64 0, .int .u64 c, .int .u64 c, .bool true] 57))
  have G1 := Lib.hid ((Mem.of_eq G0.out (hS.block g G0.out.lt hg)).alloc (.cells #[.int .i64 1, .int .i64 3, .int .i64 0, .int .u64 c, .int .u64 c, .bool true] 57))
  have D1 := Lib.hid ((hD).alloc (.cells #[.int .i64 1, .int .i64 3, .int .i64 0, .int .u64 c, .int .u64 c, .bool true] 57))
  have F1 := Lib.hid ((F0.out.trans (Fr.of_stay hS fun x a c => .inl ⟨a, c⟩)).alloc (.cells #[.int .i64 1, .int .i64 3, .int .i64 0, .int .u64 c, .int .u64 c, .bool true] 57))
  have HA1 := Lib.hid (Mem.new w0' 57 #[.int .i64 1, .int .i64 3, .int .i64 0, .int .u64 c, .int .u64 c, .bool true])
  have hgat : hi ≤ w0'.heap.size := hD.top
  have hgag : g < w0'.heap.size := Nat.lt_of_lt_of_le G0.out.lt hS.size
  have hgaw : w.heap.size < w0'.heap.size := Nat.lt_of_lt_of_le R0.out.lt hS.size
  obtain ⟨ga, hga⟩ : ∃ ga, w0'.heap.size = ga := ⟨_, rfl⟩
  rw [hga] at HA1 hgat hgaw hgag
  first | rw [hga] | skip
  clear hc hD hS hga
  obtain ⟨W1, hW⟩ : ∃ W', w0'.alloc (.cells #[.int .i64 1, .int .i64 3, .int .i64 0, .int .u64 c, .int .u64 c, .bool true] 57) = W' := ⟨_, rfl⟩
  rw [hW] at R1 G1 D1 F1 HA1
  first | rw [hW] | skip
  clear hW
  clear g0_0 g0_1 g0_2 g0_3 g0_4 g0_z R0 G0 D0 F0
  have g1_0 := Mem.cell G1.out 0
  have g1_1 := Mem.cell G1.out 1
  have g1_2 := Mem.cell G1.out 2
  have g1_3 := Mem.cell G1.out 3
  have g1_4 := Mem.cell G1.out 4
  have g1_z := G1.out.frozen
  have a1_0 := Mem.cell HA1.out 0
  have a1_1 := Mem.cell HA1.out 1
  have a1_2 := Mem.cell HA1.out 2
  have a1_3 := Mem.cell HA1.out 3
  have a1_4 := Mem.cell HA1.out 4
  have a1_5 := Mem.cell HA1.out 5
  simp at g1_0 g1_1 g1_2 g1_3 g1_4 a1_0 a1_1 a1_2 a1_3 a1_4 a1_5
  go_upto_region 5 with (fail)
  have G2 : Hid (Mem (W1.setCell ⟨g, 4, none⟩ (.int .i64 c)) g 129 #[.int .i64 0, .int .i64 t, .int .i64 n, .int .i64 0, .int .i64 c]) := Lib.hid (by have := G1.out.set_ 4 (.int .i64 c); simpa using this)
  have R2 := Lib.hid (R1.out.far (a := ⟨g, 4, none⟩) (by show w.heap.size ≠ g; omega) (.int .i64 c))
  have D2 := Lib.hid (D1.out.set_ ⟨g, 4, none⟩ hg (.int .i64 c))
  have F2 := Lib.hid (F1.out.set_ ⟨g, 4, none⟩ (.inl (.inr rfl)) (.int .i64 c))
  have HA2 := Lib.hid (HA1.out.far (a := ⟨g, 4, none⟩) (by show ga ≠ g; omega) (.int .i64 c))
  obtain ⟨W2, hW⟩ : ∃ W', W1.setCell ⟨g, 4, none⟩ (.int .i64 c) = W' := ⟨_, rfl⟩
  rw [hW] at R2 G2 D2 F2 HA2
  first | rw [hW] | skip
  clear hW
  clear g1_0 g1_1 g1_2 g1_3 g1_4 a1_0 a1_1 a1_2 a1_3 a1_4 a1_5 g1_z R1 G1 D1 F1 HA1
  have g2_0 := Mem.cell G2.out 0
  have g2_1 := Mem.cell G2.out 1
  have g2_2 := Mem.cell G2.out 2
  have g2_3 := Mem.cell G2.out 3
  have g2_4 := Mem.cell G2.out 4
  have g2_z := G2.out.frozen
  have a2_0 := Mem.cell HA2.out 0
  have a2_1 := Mem.cell HA2.out 1
  have a2_2 := Mem.cell HA2.out 2
  have a2_3 := Mem.cell HA2.out 3
  have a2_4 := Mem.cell HA2.out 4
  have a2_5 := Mem.cell HA2.out 5
  simp at g2_0 g2_1 g2_2 g2_3 g2_4 a2_0 a2_1 a2_2 a2_3 a2_4 a2_5
  have hc := f_watch 0 t n 0 c 0 (by omega) (by omega) G2.out
  go_upto_region 6 with ((go_at_call 89; refine hc.mono ?_; rintro e w2' ⟨rfl, hM, hF⟩))
  have G3 : Hid (Mem w2' g 129 #[.int .i64 (fsv n (skp t 0)), .int .i64 t, .int .i64 n, .int .i64 (skp t 0), .int .i64 c]) := Lib.hid hM
  have R3 := Lib.hid (mem_fr R2.out hF (by omega))
  have D3 := Lib.hid (D2.out.fr hF (fun x a c => by omega))
  have F3 := Lib.hid (F2.out.then hF (fun x a c => .inr c))
  have HA3 := Lib.hid (mem_fr HA2.out hF (by omega))
  clear hc hM hF g2_0 g2_1 g2_2 g2_3 g2_4 a2_0 a2_1 a2_2 a2_3 a2_4 a2_5 g2_z R2 G2 D2 F2 HA2
  have g3_0 := Mem.cell G3.out 0
  have g3_1 := Mem.cell G3.out 1
  have g3_2 := Mem.cell G3.out 2
  have g3_3 := Mem.cell G3.out 3
  have g3_4 := Mem.cell G3.out 4
  have g3_z := G3.out.frozen
  have a3_0 := Mem.cell HA3.out 0
  have a3_1 := Mem.cell HA3.out 1
  have a3_2 := Mem.cell HA3.out 2
  have a3_3 := Mem.cell HA3.out 3
  have a3_4 := Mem.cell HA3.out 4
  have a3_5 := Mem.cell HA3.out 5
  simp at g3_0 g3_1 g3_2 g3_3 g3_4 a3_0 a3_1 a3_2 a3_3 a3_4 a3_5
  have r0_0 := Mem.cell R3.out 0
  have r0_1 := Mem.cell R3.out 1
  have r0_2 := Mem.cell R3.out 2
  have r0_3 := Mem.cell R3.out 3
  have r0_4 := Mem.cell R3.out 4
  have r0_5 := Mem.cell R3.out 5
  have r0_z := R3.out.frozen
  go_wp2
  obtain ⟨M5, S5⟩ := store6 R3.out (.int .i64 1) (.int .i64 3) (.int .i64 0) (.int .u64 c) (.int .u64 c) (.bool true)
  have D5 := D3.out.fr (P := fun x => x = w.heap.size) (Fr.of_stay S5 fun x a c => by omega) fun x a c => by omega
  have G5 := mem_fr (P := fun x => x = w.heap.size) G3.out (Fr.of_stay S5 fun x a c => by omega) (by omega)
  have F5 := Fr.then (Q := fun x => x = w.heap.size) F3.out (Fr.of_stay S5 fun x a c => by omega) fun x a c => by omega
  obtain ⟨V, hV⟩ : ∃ V, ((((((w2'.setCell ⟨w.heap.size, 0, none⟩ (.int .i64 1)).setCell ⟨w.heap.size, 1, none⟩ (.int .i64 3)).setCell ⟨w.heap.size, 2, none⟩ (.int .i64 0)).setCell ⟨w.heap.size, 3, none⟩ (.int .u64 c)).setCell ⟨w.heap.size, 4, none⟩ (.int .u64 c)).setCell ⟨w.heap.size, 5, none⟩ (.bool true)) = V := ⟨_, rfl⟩
  rw [hV] at M5 D5 F5 G5 ⊢
  refine bodyPost_ret (v := .agg #[.int .i64 1, .int .i64 3, .int .i64 0, .int .u64 c, .int .u64 c, .bool true]) (results_cell_row rfl _ _ w.heap.size 57 #[.int .i64 1, .int .i64 3, .int .i64 0, .int .u64 c, .int .u64 c, .bool true] (0, 0) _ (by simp) M5 Try.underlying57 rfl (by kernel_rfl)) rfl ⟨rfl, D5, G5, F5⟩

theorem f_step1_yes {lo hi b rb : Nat} {w : World} {q : Cfg} {A B : Int → List Int} (h : Duo lo hi w b rb q A B) {g : Nat} (hg : g < lo ∨ hi ≤ g) (t n : Int) (i : Nat) (hlt : i < (A 6).length) (x : Int) (hx : (A 6).getD i 0 = x) (x0 : 0 ≤ x) (x1 : x ≤ 1099511627778) (c : Int) (h0 : 0 ≤ c) (hi9 : i ≤ 900) (hp : Hid (pass x c = true)) (M : Mem w g 129 #[.int .i64 1, .int .i64 t, .int .i64 n, .int .i64 (i : Int), .int .i64 c]) : Calls Try.prog 53 #[.pointer (some ⟨g, 0, none⟩), .pointer (some ⟨b, 0, none⟩)] w fun e w' => e = .returned (accV 1 6 i x x true) ∧ Duo lo hi w' b rb q A B ∧ Mem w' g 129 #[.int .i64 (fsv n (skp t (i + 1))), .int .i64 t, .int .i64 n, .int .i64 (skp t (i + 1)), .int .i64 c] ∧ Fr (PG lo hi g) w w' := by
  have htop := h.top
  have R0 := Lib.hid (Mem.new w 57 #[.int .i64 0, .int .i64 0, .int .i64 0, .int .u64 0, .int .u64 0, .bool false])
  have G0 := Lib.hid (M.alloc (.cells #[.int .i64 0, .int .i64 0, .int .i64 0, .int .u64 0, .int .u64 0, .bool false] 57))
  have D0 := Lib.hid (h.alloc (.cells #[.int .i64 0, .int .i64 0, .int .i64 0, .int .u64 0, .int .u64 0, .bool false] 57))
  have F0 := Lib.hid ((Fr.refl (PG lo hi g) w).alloc (.cells #[.int .i64 0, .int .i64 0, .int .i64 0, .int .u64 0, .int .u64 0, .bool false] 57))
  have hgw := M.lt
  have hrw := R0.out.lt
  clear h M
  go_enter Try.func53, Try.ntmps53
  go_upto_region 1 with (fail)
  obtain ⟨W0, hW⟩ : ∃ W', w.alloc (.cells #[.int .i64 0, .int .i64 0, .int .i64 0, .int .u64 0, .int .u64 0, .bool false] 57) = W' := ⟨_, rfl⟩
  rw [hW] at R0 G0 D0 F0
  first | rw [hW] | skip
  clear hW
  have g0_0 := Mem.cell G0.out 0
  have g0_1 := Mem.cell G0.out 1
  have g0_2 := Mem.cell G0.out 2
  have g0_3 := Mem.cell G0.out 3
  have g0_4 := Mem.cell G0.out 4
  have g0_z := G0.out.frozen
  simp at g0_0 g0_1 g0_2 g0_3 g0_4
  have hc := e_load D0.out 6 (by decide) i hlt x hx
  go_upto_region 9 with ((go_at_call 86; refine hc.mono ?_; rintro e w0' ⟨rfl, hD, hS⟩))
  have R1 := Lib.hid ((Mem.of_eq R0.out (hS.block w.heap.size R0.out.lt (.inr htop))).alloc (.cells #[.int .i64 1, .int .i64 6, .int .i64 i, .int .u64 x, .int .u64 x, .bool true] 57))
  have G1 := Lib.hid ((Mem.of_eq G0.out (hS.block g G0.out.lt hg)).alloc (.cells #[.int .i64 1, .int .i64 6, .int .i64 i, .int .u64 x, .int .u64 x, .bool true] 57))
  have D1 := Lib.hid ((hD).alloc (.cells #[.int .i64 1, .int .i64 6, .int .i64 i, .int .u64 x, .int .u64 x, .bool true] 57))
  have F1 := Lib.hid ((F0.out.trans (Fr.of_stay hS fun x a c => .inl ⟨a, c⟩)).alloc (.cells #[.int .i64 1, .int .i64 6, .int .i64 i, .int .u64 x, .int .u64 x, .bool true] 57))
  have HA1 := Lib.hid (Mem.new w0' 57 #[.int .i64 1, .int .i64 6, .int .i64 i, .int .u64 x, .int .u64 x, .bool true])
  have hgat : hi ≤ w0'.heap.size := hD.top
  have hgag : g < w0'.heap.size := Nat.lt_of_lt_of_le G0.out.lt hS.size
  have hgaw : w.heap.size < w0'.heap.size := Nat.lt_of_lt_of_le R0.out.lt hS.size
  obtain ⟨ga, hga⟩ : ∃ ga, w0'.heap.size = ga := ⟨_, rfl⟩
  rw [hga] at HA1 hgat hgaw hgag
  first | rw [hga] | skip
  clear hc hD hS hga
  obtain ⟨W1, hW⟩ : ∃ W', w0'.alloc (.cells #[.int .i64 1, .int .i64 6, .int .i64 i, .int .u64 x, .int .u64 x, .bool true] 57) = W' := ⟨_, rfl⟩
  rw [hW] at R1 G1 D1 F1 HA1
  first | rw [hW] | skip
  clear hW
  clear g0_0 g0_1 g0_2 g0_3 g0_4 g0_z R0 G0 D0 F0
  have g1_0 := Mem.cell G1.out 0
  have g1_1 := Mem.cell G1.out 1
  have g1_2 := Mem.cell G1.out 2
  have g1_3 := Mem.cell G1.out 3
  have g1_4 := Mem.cell G1.out 4
  have g1_z := G1.out.frozen
  have a1_0 := Mem.cell HA1.out 0
  have a1_1 := Mem.cell HA1.out 1
  have a1_2 := Mem.cell HA1.out 2
  have a1_3 := Mem.cell HA1.out 3
  have a1_4 := Mem.cell HA1.out 4
  have a1_5 := Mem.cell HA1.out 5
  simp at g1_0 g1_1 g1_2 g1_3 g1_4 a1_0 a1_1 a1_2 a1_3 a1_4 a1_5
  have hp2 : pass x c = true := hp.out
  have hpc := f_passes 1 t n i c x h0 x0 x1 G1.out
  rw [hp2] at hpc
  have hwi : IntKind.i64.wrap ((i : Int) + 1) = i + 1 := IntWalk.i64_in _ (by omega)
  have hc := hpc
  go_upto_region 10 with ((go_at_call 90; refine hc.mono ?_; rintro e w1' ⟨rfl, n1, hn⟩; subst hn))
  have R2 := Lib.hid (R1.out.drewN n1)
  have G2 := Lib.hid (G1.out.drewN n1)
  have D2 := Lib.hid (D1.out.drewN n1)
  have F2 := Lib.hid (F1.out.drewN n1)
  have HA2 := Lib.hid (HA1.out.drewN n1)
  obtain ⟨W2, hW⟩ : ∃ W', W1.drewN n1 = W' := ⟨_, rfl⟩
  rw [hW] at R2 G2 D2 F2 HA2
  first | rw [hW] | skip
  clear hW
  clear g1_0 g1_1 g1_2 g1_3 g1_4 a1_0 a1_1 a1_2 a1_3 a1_4 a1_5 g1_z R1 G1 D1 F1 HA1
  have g2_0 := Mem.cell G2.out 0
  have g2_1 := Mem.cell G2.out 1
  have g2_2 := Mem.cell G2.out 2
  have g2_3 := Mem.cell G2.out 3
  have g2_4 := Mem.cell G2.out 4
  have g2_z := G2.out.frozen
  have a2_0 := Mem.cell HA2.out 0
  have a2_1 := Mem.cell HA2.out 1
  have a2_2 := Mem.cell HA2.out 2
  have a2_3 := Mem.cell HA2.out 3
  have a2_4 := Mem.cell HA2.out 4
  have a2_5 := Mem.cell HA2.out 5
  simp at g2_0 g2_1 g2_2 g2_3 g2_4 a2_0 a2_1 a2_2 a2_3 a2_4 a2_5
  have hc := f_watch 1 t n i c (i + 1) (by omega) (by omega) G2.out
  go_upto_region 11 with ((go_at_call 89; refine hc.mono ?_; rintro e w2' ⟨rfl, hM, hF⟩))
  have G3 : Hid (Mem w2' g 129 #[.int .i64 (fsv n (skp t (i + 1))), .int .i64 t, .int .i64 n, .int .i64 (skp t (i + 1)), .int .i64 c]) := Lib.hid hM
  have R3 := Lib.hid (mem_fr R2.out hF (by omega))
  have D3 := Lib.hid (D2.out.fr hF (fun x a c => by omega))
  have F3 := Lib.hid (F2.out.then hF (fun x a c => .inr c))
  have HA3 := Lib.hid (mem_fr HA2.out hF (by omega))
  clear hc hM hF g2_0 g2_1 g2_2 g2_3 g2_4 a2_0 a2_1 a2_2 a2_3 a2_4 a2_5 g2_z R2 G2 D2 F2 HA2
  have g3_0 := Mem.cell G3.out 0
  have g3_1 := Mem.cell G3.out 1
  have g3_2 := Mem.cell G3.out 2
  have g3_3 := Mem.cell G3.out 3
  have g3_4 := Mem.cell G3.out 4
  have g3_z := G3.out.frozen
  have a3_0 := Mem.cell HA3.out 0
  have a3_1 := Mem.cell HA3.out 1
  have a3_2 := Mem.cell HA3.out 2
  have a3_3 := Mem.cell HA3.out 3
  have a3_4 := Mem.cell HA3.out 4
  have a3_5 := Mem.cell HA3.out 5
  simp at g3_0 g3_1 g3_2 g3_3 g3_4 a3_0 a3_1 a3_2 a3_3 a3_4 a3_5
  have r0_0 := Mem.cell R3.out 0
  have r0_1 := Mem.cell R3.out 1
  have r0_2 := Mem.cell R3.out 2
  have r0_3 := Mem.cell R3.out 3
  have r0_4 := Mem.cell R3.out 4
  have r0_5 := Mem.cell R3.out 5
  have r0_z := R3.out.frozen
  go_wp2
  obtain ⟨M5, S5⟩ := store6 R3.out (.int .i64 1) (.int .i64 6) (.int .i64 i) (.int .u64 x) (.int .u64 x) (.bool true)
  have D5 := D3.out.fr (P := fun x => x = w.heap.size) (Fr.of_stay S5 fun x a c => by omega) fun x a c => by omega
  have G5 := mem_fr (P := fun x => x = w.heap.size) G3.out (Fr.of_stay S5 fun x a c => by omega) (by omega)
  have F5 := Fr.then (Q := fun x => x = w.heap.size) F3.out (Fr.of_stay S5 fun x a c => by omega) fun x a c => by omega
  obtain ⟨V, hV⟩ : ∃ V, ((((((w2'.setCell ⟨w.heap.size, 0, none⟩ (.int .i64 1)).setCell ⟨w.heap.size, 1, none⟩ (.int .i64 6)).setCell ⟨w.heap.size, 2, none⟩ (.int .i64 i)).setCell ⟨w.heap.size, 3, none⟩ (.int .u64 x)).setCell ⟨w.heap.size, 4, none⟩ (.int .u64 x)).setCell ⟨w.heap.size, 5, none⟩ (.bool true)) = V := ⟨_, rfl⟩
  rw [hV] at M5 D5 F5 G5 ⊢
  refine bodyPost_ret (v := .agg #[.int .i64 1, .int .i64 6, .int .i64 i, .int .u64 x, .int .u64 x, .bool true]) (results_cell_row rfl _ _ w.heap.size 57 #[.int .i64 1, .int .i64 6, .int .i64 i, .int .u64 x, .int .u64 x, .bool true] (0, 0) _ (by simp) M5 Try.underlying57 rfl (by kernel_rfl)) rfl ⟨rfl, D5, G5, F5⟩

theorem f_step1_no {lo hi b rb : Nat} {w : World} {q : Cfg} {A B : Int → List Int} (h : Duo lo hi w b rb q A B) {g : Nat} (hg : g < lo ∨ hi ≤ g) (t n : Int) (i : Nat) (hlt : i < (A 6).length) (x : Int) (hx : (A 6).getD i 0 = x) (x0 : 0 ≤ x) (x1 : x ≤ 1099511627778) (c : Int) (h0 : 0 ≤ c) (hi9 : i ≤ 900) (hp : Hid (pass x c = false)) (M : Mem w g 129 #[.int .i64 1, .int .i64 t, .int .i64 n, .int .i64 (i : Int), .int .i64 c]) : Calls Try.prog 53 #[.pointer (some ⟨g, 0, none⟩), .pointer (some ⟨b, 0, none⟩)] w fun e w' => e = .returned (accV 1 6 i x x true) ∧ Duo lo hi w' b rb q A B ∧ Mem w' g 129 #[.int .i64 1, .int .i64 t, .int .i64 n, .int .i64 (i : Int), .int .i64 c] ∧ Fr (PG lo hi g) w w' := by
  have htop := h.top
  have R0 := Lib.hid (Mem.new w 57 #[.int .i64 0, .int .i64 0, .int .i64 0, .int .u64 0, .int .u64 0, .bool false])
  have G0 := Lib.hid (M.alloc (.cells #[.int .i64 0, .int .i64 0, .int .i64 0, .int .u64 0, .int .u64 0, .bool false] 57))
  have D0 := Lib.hid (h.alloc (.cells #[.int .i64 0, .int .i64 0, .int .i64 0, .int .u64 0, .int .u64 0, .bool false] 57))
  have F0 := Lib.hid ((Fr.refl (PG lo hi g) w).alloc (.cells #[.int .i64 0, .int .i64 0, .int .i64 0, .int .u64 0, .int .u64 0, .bool false] 57))
  have hgw := M.lt
  have hrw := R0.out.lt
  clear h M
  go_enter Try.func53, Try.ntmps53
  go_upto_region 1 with (fail)
  obtain ⟨W0, hW⟩ : ∃ W', w.alloc (.cells #[.int .i64 0, .int .i64 0, .int .i64 0, .int .u64 0, .int .u64 0, .bool false] 57) = W' := ⟨_, rfl⟩
  rw [hW] at R0 G0 D0 F0
  first | rw [hW] | skip
  clear hW
  have g0_0 := Mem.cell G0.out 0
  have g0_1 := Mem.cell G0.out 1
  have g0_2 := Mem.cell G0.out 2
  have g0_3 := Mem.cell G0.out 3
  have g0_4 := Mem.cell G0.out 4
  have g0_z := G0.out.frozen
  simp at g0_0 g0_1 g0_2 g0_3 g0_4
  have hc := e_load D0.out 6 (by decide) i hlt x hx
  go_upto_region 9 with ((go_at_call 86; refine hc.mono ?_; rintro e w0' ⟨rfl, hD, hS⟩))
  have R1 := Lib.hid ((Mem.of_eq R0.out (hS.block w.heap.size R0.out.lt (.inr htop))).alloc (.cells #[.int .i64 1, .int .i64 6, .int .i64 i, .int .u64 x, .int .u64 x, .bool true] 57))
  have G1 := Lib.hid ((Mem.of_eq G0.out (hS.block g G0.out.lt hg)).alloc (.cells #[.int .i64 1, .int .i64 6, .int .i64 i, .int .u64 x, .int .u64 x, .bool true] 57))
  have D1 := Lib.hid ((hD).alloc (.cells #[.int .i64 1, .int .i64 6, .int .i64 i, .int .u64 x, .int .u64 x, .bool true] 57))
  have F1 := Lib.hid ((F0.out.trans (Fr.of_stay hS fun x a c => .inl ⟨a, c⟩)).alloc (.cells #[.int .i64 1, .int .i64 6, .int .i64 i, .int .u64 x, .int .u64 x, .bool true] 57))
  have HA1 := Lib.hid (Mem.new w0' 57 #[.int .i64 1, .int .i64 6, .int .i64 i, .int .u64 x, .int .u64 x, .bool true])
  have hgat : hi ≤ w0'.heap.size := hD.top
  have hgag : g < w0'.heap.size := Nat.lt_of_lt_of_le G0.out.lt hS.size
  have hgaw : w.heap.size < w0'.heap.size := Nat.lt_of_lt_of_le R0.out.lt hS.size
  obtain ⟨ga, hga⟩ : ∃ ga, w0'.heap.size = ga := ⟨_, rfl⟩
  rw [hga] at HA1 hgat hgaw hgag
  first | rw [hga] | skip
  clear hc hD hS hga
  obtain ⟨W1, hW⟩ : ∃ W', w0'.alloc (.cells #[.int .i64 1, .int .i64 6, .int .i64 i, .int .u64 x, .int .u64 x, .bool true] 57) = W' := ⟨_, rfl⟩
  rw [hW] at R1 G1 D1 F1 HA1
  first | rw [hW] | skip
  clear hW
  clear g0_0 g0_1 g0_2 g0_3 g0_4 g0_z R0 G0 D0 F0
  have g1_0 := Mem.cell G1.out 0
  have g1_1 := Mem.cell G1.out 1
  have g1_2 := Mem.cell G1.out 2
  have g1_3 := Mem.cell G1.out 3
  have g1_4 := Mem.cell G1.out 4
  have g1_z := G1.out.frozen
  have a1_0 := Mem.cell HA1.out 0
  have a1_1 := Mem.cell HA1.out 1
  have a1_2 := Mem.cell HA1.out 2
  have a1_3 := Mem.cell HA1.out 3
  have a1_4 := Mem.cell HA1.out 4
  have a1_5 := Mem.cell HA1.out 5
  simp at g1_0 g1_1 g1_2 g1_3 g1_4 a1_0 a1_1 a1_2 a1_3 a1_4 a1_5
  have hp2 : pass x c = false := hp.out
  have hpc := f_passes 1 t n i c x h0 x0 x1 G1.out
  rw [hp2] at hpc
  have hwi : IntKind.i64.wrap ((i : Int) + 1) = i + 1 := IntWalk.i64_in _ (by omega)
  have hc := hpc
  go_upto_region 11 with ((go_at_call 90; refine hc.mono ?_; rintro e w1' ⟨rfl, n1, hn⟩; subst hn))
  have R2 := Lib.hid (R1.out.drewN n1)
  have G2 := Lib.hid (G1.out.drewN n1)
  have D2 := Lib.hid (D1.out.drewN n1)
  have F2 := Lib.hid (F1.out.drewN n1)
  have HA2 := Lib.hid (HA1.out.drewN n1)
  obtain ⟨W2, hW⟩ : ∃ W', W1.drewN n1 = W' := ⟨_, rfl⟩
  rw [hW] at R2 G2 D2 F2 HA2
  first | rw [hW] | skip
  clear hW
  clear g1_0 g1_1 g1_2 g1_3 g1_4 a1_0 a1_1 a1_2 a1_3 a1_4 a1_5 g1_z R1 G1 D1 F1 HA1
  have g2_0 := Mem.cell G2.out 0
  have g2_1 := Mem.cell G2.out 1
  have g2_2 := Mem.cell G2.out 2
  have g2_3 := Mem.cell G2.out 3
  have g2_4 := Mem.cell G2.out 4
  have g2_z := G2.out.frozen
  have a2_0 := Mem.cell HA2.out 0
  have a2_1 := Mem.cell HA2.out 1
  have a2_2 := Mem.cell HA2.out 2
  have a2_3 := Mem.cell HA2.out 3
  have a2_4 := Mem.cell HA2.out 4
  have a2_5 := Mem.cell HA2.out 5
  simp at g2_0 g2_1 g2_2 g2_3 g2_4 a2_0 a2_1 a2_2 a2_3 a2_4 a2_5
  have r0_0 := Mem.cell R2.out 0
  have r0_1 := Mem.cell R2.out 1
  have r0_2 := Mem.cell R2.out 2
  have r0_3 := Mem.cell R2.out 3
  have r0_4 := Mem.cell R2.out 4
  have r0_5 := Mem.cell R2.out 5
  have r0_z := R2.out.frozen
  go_wp2
  obtain ⟨M5, S5⟩ := store6 R2.out (.int .i64 1) (.int .i64 6) (.int .i64 i) (.int .u64 x) (.int .u64 x) (.bool true)
  have D5 := D2.out.fr (P := fun x => x = w.heap.size) (Fr.of_stay S5 fun x a c => by omega) fun x a c => by omega
  have G5 := mem_fr (P := fun x => x = w.heap.size) G2.out (Fr.of_stay S5 fun x a c => by omega) (by omega)
  have F5 := Fr.then (Q := fun x => x = w.heap.size) F2.out (Fr.of_stay S5 fun x a c => by omega) fun x a c => by omega
  obtain ⟨V, hV⟩ : ∃ V, ((((((W2.setCell ⟨w.heap.size, 0, none⟩ (.int .i64 1)).setCell ⟨w.heap.size, 1, none⟩ (.int .i64 6)).setCell ⟨w.heap.size, 2, none⟩ (.int .i64 i)).setCell ⟨w.heap.size, 3, none⟩ (.int .u64 x)).setCell ⟨w.heap.size, 4, none⟩ (.int .u64 x)).setCell ⟨w.heap.size, 5, none⟩ (.bool true)) = V := ⟨_, rfl⟩
  rw [hV] at M5 D5 F5 G5 ⊢
  refine bodyPost_ret (v := .agg #[.int .i64 1, .int .i64 6, .int .i64 i, .int .u64 x, .int .u64 x, .bool true]) (results_cell_row rfl _ _ w.heap.size 57 #[.int .i64 1, .int .i64 6, .int .i64 i, .int .u64 x, .int .u64 x, .bool true] (0, 0) _ (by simp) M5 Try.underlying57 rfl (by kernel_rfl)) rfl ⟨rfl, D5, G5, F5⟩

theorem f_step2 {lo hi b rb : Nat} {w : World} {q : Cfg} {A B : Int → List Int} (h : Duo lo hi w b rb q A B) {g : Nat} (hg : g < lo ∨ hi ≤ g) (t n wd c : Int) (M : Mem w g 129 #[.int .i64 2, .int .i64 t, .int .i64 n, .int .i64 wd, .int .i64 c]) : Calls Try.prog 53 #[.pointer (some ⟨g, 0, none⟩), .pointer (some ⟨b, 0, none⟩)] w fun e w' => e = .returned (accV 0 0 0 0 0 false) ∧ Duo lo hi w' b rb q A B ∧ Mem w' g 129 #[.int .i64 2, .int .i64 t, .int .i64 n, .int .i64 wd, .int .i64 c] ∧ Fr (PG lo hi g) w w' := by
  have htop := h.top
  have R0 := Lib.hid (Mem.new w 57 #[.int .i64 0, .int .i64 0, .int .i64 0, .int .u64 0, .int .u64 0, .bool false])
  have G0 := Lib.hid (M.alloc (.cells #[.int .i64 0, .int .i64 0, .int .i64 0, .int .u64 0, .int .u64 0, .bool false] 57))
  have D0 := Lib.hid (h.alloc (.cells #[.int .i64 0, .int .i64 0, .int .i64 0, .int .u64 0, .int .u64 0, .bool false] 57))
  have F0 := Lib.hid ((Fr.refl (PG lo hi g) w).alloc (.cells #[.int .i64 0, .int .i64 0, .int .i64 0, .int .u64 0, .int .u64 0, .bool false] 57))
  have hgw := M.lt
  have hrw := R0.out.lt
  clear h M
  go_enter Try.func53, Try.ntmps53
  go_upto_region 1 with (fail)
  obtain ⟨W0, hW⟩ : ∃ W', w.alloc (.cells #[.int .i64 0, .int .i64 0, .int .i64 0, .int .u64 0, .int .u64 0, .bool false] 57) = W' := ⟨_, rfl⟩
  rw [hW] at R0 G0 D0 F0
  first | rw [hW] | skip
  clear hW
  have g0_0 := Mem.cell G0.out 0
  have g0_1 := Mem.cell G0.out 1
  have g0_2 := Mem.cell G0.out 2
  have g0_3 := Mem.cell G0.out 3
  have g0_4 := Mem.cell G0.out 4
  have g0_z := G0.out.frozen
  simp at g0_0 g0_1 g0_2 g0_3 g0_4
  have r0_0 := Mem.cell R0.out 0
  have r0_1 := Mem.cell R0.out 1
  have r0_2 := Mem.cell R0.out 2
  have r0_3 := Mem.cell R0.out 3
  have r0_4 := Mem.cell R0.out 4
  have r0_5 := Mem.cell R0.out 5
  have r0_z := R0.out.frozen
  go_wp2
  obtain ⟨M5, S5⟩ := store6 R0.out (.int .i64 0) (.int .i64 0) (.int .i64 0) (.int .u64 0) (.int .u64 0) (.bool false)
  have D5 := D0.out.fr (P := fun x => x = w.heap.size) (Fr.of_stay S5 fun x a c => by omega) fun x a c => by omega
  have G5 := mem_fr (P := fun x => x = w.heap.size) G0.out (Fr.of_stay S5 fun x a c => by omega) (by omega)
  have F5 := Fr.then (Q := fun x => x = w.heap.size) F0.out (Fr.of_stay S5 fun x a c => by omega) fun x a c => by omega
  obtain ⟨V, hV⟩ : ∃ V, ((((((W0.setCell ⟨w.heap.size, 0, none⟩ (.int .i64 0)).setCell ⟨w.heap.size, 1, none⟩ (.int .i64 0)).setCell ⟨w.heap.size, 2, none⟩ (.int .i64 0)).setCell ⟨w.heap.size, 3, none⟩ (.int .u64 0)).setCell ⟨w.heap.size, 4, none⟩ (.int .u64 0)).setCell ⟨w.heap.size, 5, none⟩ (.bool false)) = V := ⟨_, rfl⟩
  rw [hV] at M5 D5 F5 G5 ⊢
  refine bodyPost_ret (v := .agg #[.int .i64 0, .int .i64 0, .int .i64 0, .int .u64 0, .int .u64 0, .bool false]) (results_cell_row rfl _ _ w.heap.size 57 #[.int .i64 0, .int .i64 0, .int .i64 0, .int .u64 0, .int .u64 0, .bool false] (0, 0) _ (by simp) M5 Try.underlying57 rfl (by kernel_rfl)) rfl ⟨rfl, D5, G5, F5⟩

theorem f_done (g : Nat) (st t n wd c : Int) (w : World) (M : Mem w g 129 #[.int .i64 st, .int .i64 t, .int .i64 n, .int .i64 wd, .int .i64 c]) : Calls Try.prog 50 #[.pointer (some ⟨g, 0, none⟩)] w fun e w' => e = .returned (.bool (st == 2)) ∧ w = w' := by
  have c0 := M.cell 0
  simp at c0
  clear M
  go_enter Try.func50, Try.ntmps50
  go_wp2
  go_ret
  exact ⟨rfl, rfl⟩
theorem f_limit (g : Nat) (st t n wd c : Int) (w : World) (M : Mem w g 129 #[.int .i64 st, .int .i64 t, .int .i64 n, .int .i64 wd, .int .i64 c]) : Calls Try.prog 52 #[.pointer (some ⟨g, 0, none⟩)] w fun e w' => e = .returned (.int .i64 c) ∧ w = w' := by
  have c4 := M.cell 4
  simp at c4
  clear M
  go_enter Try.func52, Try.ntmps52
  go_wp2
  go_ret
  exact ⟨rfl, rfl⟩
theorem f_new (t n : Int) (w : World) : Calls Try.prog 48 #[.int .i64 t, .int .i64 n] w fun e w' => e = .returned (.pointer (some ⟨w.heap.size, 0, none⟩)) ∧ w' = w.alloc (.cells #[.int .i64 0, .int .i64 t, .int .i64 n, .int .i64 0, .int .i64 (-1)] 129) := by
  go_enter Try.func48, Try.ntmps48
  go_wp2
  go_ret
  exact ⟨rfl, rfl⟩

end Go.Proofs.Ythgbfghhiadjpaa.EpoF
