/-
  Layer 16's statements' own functions: config, word, orecs; the sanity check awake.
-/
import Derived.Test.YtdegclfbnldgaaaVaB
namespace Go.Proofs.Ytdegclfbnldgaaa.VaL
open Go.ChangeShapes Go.WideShapes Go.ChangeAt Go.RowKit
open LawFrame PlainT BlkW LayS LayA LayH LayK LayP CelS CelM CelP CelV CelN CelO CelI CelF CelB LabD LabR LabP LabS LabX LabN CelLo WordC RsA ObjA ClnA VaA VaB
set_option linter.unusedVariables false
set_option maxHeartbeats 2000000
set_option maxRecDepth 100000

theorem l_config16 (w : World) : Calls Try.prog 30 #[] w fun e w' => e = .returned (cfgV q6) ∧ Below w.heap.size w w' := by
  have HB := Lib.hid (below_new w (.cells (cells q6) TC))
  have HM := Lib.hid (Mem.new w TC (cells q6))
  go_enter Try.func30, Try.ntmps30
  go_wp2
  refine bodyPost_ret (v := cfgV q6) (results_cell_row rfl _ _ w.heap.size TC (cells q6) (0, 0) _ (by simp) HM.out Try.underlying43 rfl (by kernel_rfl)) rfl ⟨rfl, HB.out⟩
theorem l_word (v : Int) : ∃ x : Int, 0 ≤ x ∧ x ≤ 260 ∧ ∀ w, Calls Try.prog 31 #[.int .i64 v] w fun e w' => e = .returned (.int .u64 x) ∧ w = w' := by
  obtain ⟨n, hn⟩ : ∃ n, pl v 30 = n := ⟨_, rfl⟩
  have hb := pl_in v 30 (by decide) (by decide)
  rw [hn] at hb
  obtain ⟨n0, n1⟩ := hb
  have hkp := k_place v 30 n (by decide) (by decide) hn
  obtain ⟨d, hd⟩ : ∃ d, n / 6 = d := ⟨_, rfl⟩
  obtain ⟨r, hr⟩ : ∃ r, n % 4 = r := ⟨_, rfl⟩
  obtain ⟨t, ht⟩ : ∃ t, n % 3 = t := ⟨_, rfl⟩
  have hd2 : n.tdiv 6 = d := by rw [Int.tdiv_eq_ediv_of_nonneg n0]; exact hd
  have hr2 : n.tmod 4 = r := by rw [Int.tmod_eq_emod_of_nonneg n0]; exact hr
  have ht2 : n.tmod 3 = t := by rw [Int.tmod_eq_emod_of_nonneg n0]; exact ht
  have hdb : 0 ≤ d ∧ d ≤ 4 := by omega
  have hrb : 0 ≤ r ∧ r ≤ 3 := by omega
  obtain ⟨d0, d1⟩ := hdb
  obtain ⟨r0, r1⟩ := hrb
  have hw1 : wrap64 d = d := IntWalk.wrap64_in _ (by omega)
  have hh := r_held d r d0 (by omega) r0 (by omega)
  have hf := r_free d d0 (by omega)
  clear hn
  by_cases h : t = 2
  · have hb : (t == 2) = true := by simpa using h
    refine ⟨d * 64 + r + 1, by omega, by omega, fun w => ?_⟩
    clear h hf
    go_enter Try.func31, Try.ntmps31
    go_wp2_with (first
      | (go_at_call 11; (with_reducible refine (hkp _).mono ?_); rintro e w1 ⟨rfl, rfl⟩)
      | (go_at_call 67; (with_reducible refine (hh _).mono ?_); rintro e w2 ⟨rfl, rfl⟩))
    go_ret
    exact ⟨rfl, rfl⟩
  · have hb : (t == 2) = false := by simpa using h
    refine ⟨d * 64, by omega, by omega, fun w => ?_⟩
    clear h hh
    go_enter Try.func31, Try.ntmps31
    go_wp2_with (first
      | (go_at_call 11; (with_reducible refine (hkp _).mono ?_); rintro e w1 ⟨rfl, rfl⟩)
      | (go_at_call 42; (with_reducible refine (hf _).mono ?_); rintro e w2 ⟨rfl, rfl⟩))
    go_ret
    exact ⟨rfl, rfl⟩
theorem l_word_ex (v : Int) (w : World) : Calls Try.prog 31 #[.int .i64 v] w fun e w' => ∃ x, 0 ≤ x ∧ x ≤ 260 ∧ e = .returned (.int .u64 x) ∧ w = w' := by
  obtain ⟨x, x0, x1, h⟩ := l_word v
  exact (h w).mono fun e w' ⟨he, hw⟩ => ⟨x, x0, x1, he, hw⟩
/-- A list out of numbers. -/
theorem l_orecs {w0 : World} {A : Option Addr} {n : Nat} {z : List Int} (h : Ints .i64 w0 A n z) (c : Nat) : ∃ W : List Int, W.length ≤ 12 ∧ (∀ x ∈ W, 0 ≤ x ∧ x ≤ 5) ∧ ∀ w, Below w0.heap.size w0 w →
    Calls Try.prog 33 #[.slice A n c] w fun e w' => ∃ p cap, e = .returned (.slice p W.length cap) ∧ w'.ownsRow w.heap.size TI 1 (.slice p W.length cap) W.length (W.map (Value.int .i64)) ∧ Below w.heap.size w w' := by
  obtain ⟨hz1, hz2, hz3⟩ := h
  refine ⟨(z.take 12).map fun x => pl x 6, by simp; omega, fun x hx => ?_, fun w hb => ?_⟩
  · obtain ⟨z, _, rfl⟩ := List.mem_map.1 hx
    have := pl_in z 6 (by decide) (by decide)
    omega
  have hcz : ∀ w', Below w0.heap.size w0 w' → ∀ i, i < n → ∃ gi oi x, A = some ⟨gi, oi, none⟩ ∧ z[i]? = some x ∧ w'.cell? ⟨gi, oi + i, none⟩ = some (.int .i64 x) := fun w' hb' i hi => by
    obtain ⟨gi, oi, rfl, hgi, hc⟩ := hz3 (by omega)
    exact ⟨gi, oi, z.getD i 0, rfl, by rw [List.getD_eq_getElem?_getD, List.getElem?_eq_getElem (by omega : i < z.length)]; rfl, (World.cell?_of_block (hb'.block gi hgi)).trans (hc i hi)⟩
  have HZ := Lib.hid hcz
  have HN := Lib.hid hz1
  have HB := Lib.hid hb
  clear hb hcz hz1 hz2 hz3
  go_enter Try.func33, Try.ntmps33
  go_wp2_with fail
  go_loopw [3, 4] (fun sv iv wr => ∃ (i : Nat) (Ao : Option Addr) (co : Nat), i ≤ 12 ∧ i ≤ n ∧ iv = .int .i64 i ∧ sv = .slice Ao i co ∧ OwnI wr w.heap.size (.slice Ao i co) ((z.take i).map fun x => pl x 6) ∧ Below w.heap.size w wr) (fun _ iv _ => 12 - (intOf iv).toNat)
  case atStart => exact ⟨0, none, 0, by omega, by omega, rfl, rfl, World.ownsRow_nil _ _ _ _, Below.refl _ _⟩
  case round =>
    obtain ⟨i, Ao, co, hi8, hin, rfl, rfl, hown, hbw⟩ := hrel
    have HO := Lib.hid hown
    have HBW := Lib.hid hbw
    have hB := below_trans2 HB.out hbw
    clear hown hbw
    by_cases hi : i < n
    · have hiI : (i : Int) < n := by omega
      obtain ⟨gi, oi, x, rfl, hx, c2⟩ := HZ.out wr hB i hi
      by_cases h8 : i < 12
      · have h8I : (i : Int) < 12 := by omega
        have hxl : ((z.take i).map fun x => pl x 6).length = i := by rw [List.length_map, List.length_take, HN.out]; omega
        obtain ⟨v, hv⟩ : ∃ v, pl x 6 = v := ⟨_, rfl⟩
        have hpl := k_place x 6 v (by decide) (by decide) hv
        have ho := HO.out
        obtain ⟨A2, c2', w2, hrun, hown2, hbel2, hfar2, _⟩ := push_i HBW.out.size ho (by rw [hxl]; omega) v
        rw [hxl] at hrun hown2
        have HO2 := Lib.hid hown2
        have HB2 := Lib.hid (HBW.out.trans hbel2)
        have HV := Lib.hid (And.intro hv hx)
        have HXL := Lib.hid hxl
        clear hown2 hbel2 hfar2 ho hB hv hx hxl
        go_wp2_with (first | (go_at_call 11; (with_reducible refine (hpl _).mono ?_); rintro e w9 ⟨rfl, rfl⟩) | (at_builtin; refine wpList_append_run rfl _ _ _ rfl hrun (by rfl) (by rfl) ?_))
        go_roundw
        case rel =>
          obtain ⟨hv, hx⟩ := HV.out
          refine ⟨i + 1, A2, c2', by omega, by omega, by go_num, rfl, ?_, HB2.out⟩
          have e : (z.take (i + 1)).map (fun x => pl x 6) = (z.take i).map (fun x => pl x 6) ++ [v] := by rw [List.take_add_one, hx, List.map_append, ← hv]; rfl
          have := HO2.out
          unfold OwnI at this ⊢
          rw [e]
          exact this
        case measure => simp [intOf]; omega
      · obtain rfl : i = 12 := by omega
        have hwl : Hid (((z.take 12).map fun x => pl x 6).length = 12) := Lib.hid (by rw [List.length_map, List.length_take, HN.out]; omega)
        have HBF := Lib.hid HBW.out
        have HR := Lib.hid HO.out
        clear HZ hB h8 hi8 HO
        go_wp2_with fail
        go_ret
        have := HR.out
        unfold OwnI at this
        rw [hwl.out] at this ⊢
        exact ⟨Ao, co, rfl, this, HBF.out⟩
    · obtain rfl : i = n := by omega
      have hwe : Hid (z.take 12 = z.take i) := Lib.hid (by rw [List.take_of_length_le (by rw [HN.out]; omega), List.take_of_length_le (by rw [HN.out]; omega)])
      have hwl : Hid (((z.take i).map fun x => pl x 6).length = i) := Lib.hid (by rw [List.length_map, List.length_take, HN.out]; omega)
      have HBF := Lib.hid HBW.out
      have HR := Lib.hid HO.out
      clear HZ hB hi8 HO hi hin
      go_wp2_with fail
      go_ret
      have := HR.out
      unfold OwnI at this
      rw [hwl.out] at this
      rw [hwe.out, hwl.out]
      exact ⟨Ao, co, rfl, this, HBF.out⟩
/-! The sanity check. -/
theorem l_awake (w : World) : Calls Try.prog 40 #[] w fun e w' => e = .returned (.bool true) ∧ Below w.heap.size w w' := by
  go_enter Try.func40, Try.ntmps40
  go_upto_region 2 with (first
    | (go_at_call 30; (with_reducible refine (l_config16 _).mono ?_); rintro e w1 ⟨rfl, hb1⟩)
    | (go_at_call 29; (with_reducible refine (start_six 2 2 rfl (by decide) (by decide) _).mono ?_); rintro e w2 ⟨A, lo, hi, b, rb, rfl, hst⟩))
  have L0 : Hid (Lo w1 lo hi b rb q6 A A [] w2) := Lib.hid (Lo.begunN hst)
  obtain ⟨hA2, _⟩ := begun_six hst
  have HB1 := Lib.hid hb1
  clear hst hb1
  have L1 := Lib.hid (L0.out.new TP #[.pointer (some ⟨b, 0, none⟩), .pointer (some ⟨rb, 0, none⟩)])
  obtain ⟨gp, hn⟩ : ∃ gp, w2.heap.size = gp := ⟨_, rfl⟩
  rw [hn] at L1
  first | rw [hn] | skip
  clear hn
  obtain ⟨W1, hW⟩ : ∃ W', w2.alloc (.cells #[.pointer (some ⟨b, 0, none⟩), .pointer (some ⟨rb, 0, none⟩)] TP) = W' := ⟨_, rfl⟩
  rw [hW] at L1
  first | rw [hW] | skip
  clear hW
  have L1 : Hid (Lo w1 lo hi b rb q6 A A [bx gp TP #[.pointer (some ⟨b, 0, none⟩), .pointer (some ⟨rb, 0, none⟩)]] W1) := L1
  clear L0
  have hna : Calls Try.prog 32 #[.slice (some ⟨W1.heap.size, 0, none⟩) 2 2, .int .i64 2] (W1.alloc (.cells #[.int .i64 0, .int .i64 1] TI)) _ := x_new (L1.out.alloc (.cells #[.int .i64 0, .int .i64 1] TI)) (.slice (some ⟨W1.heap.size, 0, none⟩) 2 2) 2 [0, 1] (rdr_lit W1 [0, 1] (by decide)) (by decide)
  have hnb : ∀ wz g1 v1, Lo w1 lo hi b rb q6 A A [bx gp TP #[.pointer (some ⟨b, 0, none⟩), .pointer (some ⟨rb, 0, none⟩)], ckM g1 2 v1 false [0, 1]] wz → Calls Try.prog 32 #[.slice (some ⟨wz.heap.size, 0, none⟩) 2 2, .int .i64 2] (wz.alloc (.cells #[.int .i64 2, .int .i64 0] TI)) _ := fun wz g1 v1 h => x_new (h.alloc (.cells #[.int .i64 2, .int .i64 0] TI)) (.slice (some ⟨wz.heap.size, 0, none⟩) 2 2) 2 [2, 0] (rdr_lit wz [2, 0] (by decide)) (by decide)
  go_upto_region 3 with (first
    | (go_at_call 32; (with_reducible refine hna.mono ?_); rintro e wga ⟨ga, va, rfl, hLga⟩; have hnb := hnb _ _ _ hLga)
    | (go_at_call 32; (with_reducible refine hnb.mono ?_); rintro e wb ⟨gb, vb, rfl, hL⟩))
  have L2 : Hid (Lo w1 lo hi b rb q6 A A [bx gp TP #[.pointer (some ⟨b, 0, none⟩), .pointer (some ⟨rb, 0, none⟩)], ckM ga 2 va false [0, 1], ckM gb 2 vb false [2, 0]] wb) := Lib.hid hL
  clear hL hLga hna hnb L1
  have c2_0_0 : wb.cell? ⟨gp, 0, none⟩ = some (.pointer (some ⟨b, 0, none⟩)) := L2.out.c 0 0 rfl rfl
  have c2_0_1 : wb.cell? ⟨gp, 1, none⟩ = some (.pointer (some ⟨rb, 0, none⟩)) := L2.out.c 0 1 rfl rfl
  have hs1 : Calls Try.prog 18 #[pairV b rb, .int .i64 2, .int .i64 0, .int .u64 133] wb _ := lo_set L2.out 2 (by decide) 0 (by rw [hA2]; decide) 133
  have hs2 : ∀ wz, Lo w1 lo hi b rb q6 (upd A 2 0 133) (upd A 2 0 133) [bx gp TP #[.pointer (some ⟨b, 0, none⟩), .pointer (some ⟨rb, 0, none⟩)], ckM ga 2 va false [0, 1], ckM gb 2 vb false [2, 0]] wz → (wz.cell? ⟨gp, 0, none⟩ = some (.pointer (some ⟨b, 0, none⟩)) ∧ wz.cell? ⟨gp, 1, none⟩ = some (.pointer (some ⟨rb, 0, none⟩))) ∧ Calls Try.prog 18 #[pairV b rb, .int .i64 2, .int .i64 2, .int .u64 192] wz _ := fun wz h => ⟨⟨h.c 0 0 rfl rfl, h.c 0 1 rfl rfl⟩, lo_set h 2 (by decide) 2 (by rw [upd2, hA2]; decide) 192⟩
  go_upto_region 5 with (first
    | (go_at_call 18; (with_reducible refine hs1.mono ?_); rintro e wc ⟨rfl, hLc⟩; obtain ⟨⟨d0, d1⟩, hs2⟩ := hs2 _ hLc)
    | (go_at_call 18; (with_reducible refine hs2.mono ?_); rintro e wd ⟨rfl, hLd⟩))
  obtain ⟨A2, hAn⟩ : ∃ A2, upd (upd A 2 0 133) 2 2 192 = A2 := ⟨_, rfl⟩
  have hB2 : A2 2 = [133, 0, 192, 0, 0, 0] := by rw [← hAn, upd2, upd2, hA2]; rfl
  rw [hAn] at hLd
  have L3 : Hid (Lo w1 lo hi b rb q6 A2 A2 [bx gp TP #[.pointer (some ⟨b, 0, none⟩), .pointer (some ⟨rb, 0, none⟩)], ckM ga 2 va false [0, 1], ckM gb 2 vb false [2, 0]] wd) := Lib.hid hLd
  clear hLc hLd hs1 hs2 d0 d1 hAn hA2 L2 c2_0_0 c2_0_1
  have c3_0_0 : wd.cell? ⟨gp, 0, none⟩ = some (.pointer (some ⟨b, 0, none⟩)) := L3.out.c 0 0 rfl rfl
  have hst := x_go (i := 1) (xs := [0, 1]) (k := 0) (F := false) L3.out rfl ⟨by decide, by decide⟩ (by decide) (vok_of (by rw [hB2]; rfl) (by rw [hB2]; decide)) (by rw [hB2]; rfl)
  go_upto_region 6 with (go_at_call 38; (with_reducible refine hst.mono ?_); rintro e x1 ⟨rfl, v1, hL⟩)
  have L4 : Hid (Lo w1 lo hi b rb q6 A2 A2 [bx gp TP #[.pointer (some ⟨b, 0, none⟩), .pointer (some ⟨rb, 0, none⟩)], ckM ga 2 v1 false [1], ckM gb 2 vb false [2, 0]] x1) := Lib.hid hL
  clear hL hst L3 c3_0_0
  have c4_0_0 : x1.cell? ⟨gp, 0, none⟩ = some (.pointer (some ⟨b, 0, none⟩)) := L4.out.c 0 0 rfl rfl
  have hst := x_go (i := 1) (xs := [0, 1]) (k := 1) (F := false) L4.out rfl ⟨by decide, by decide⟩ (by decide) (vok_of (by rw [hB2]; rfl) (by rw [hB2]; decide)) (by rw [hB2]; rfl)
  go_upto_region 7 with (go_at_call 38; (with_reducible refine hst.mono ?_); rintro e x2 ⟨rfl, v2, hL⟩)
  have L5 : Hid (Lo w1 lo hi b rb q6 A2 A2 [bx gp TP #[.pointer (some ⟨b, 0, none⟩), .pointer (some ⟨rb, 0, none⟩)], ckM ga 2 v2 false [], ckM gb 2 vb false [2, 0]] x2) := Lib.hid hL
  clear hL hst L4 c4_0_0
  have c5_0_0 : x2.cell? ⟨gp, 0, none⟩ = some (.pointer (some ⟨b, 0, none⟩)) := L5.out.c 0 0 rfl rfl
  have hst := x_go (i := 2) (xs := [2, 0]) (k := 0) (F := true) L5.out rfl ⟨by decide, by decide⟩ (by decide) (vok_of (by rw [hB2]; rfl) (by rw [hB2]; decide)) (by rw [hB2]; rfl)
  go_upto_region 8 with (go_at_call 38; (with_reducible refine hst.mono ?_); rintro e x3 ⟨rfl, v3, hL⟩)
  have L6 : Hid (Lo w1 lo hi b rb q6 A2 A2 [bx gp TP #[.pointer (some ⟨b, 0, none⟩), .pointer (some ⟨rb, 0, none⟩)], ckM ga 2 v2 false [], ckM gb 2 v3 true [0]] x3) := Lib.hid hL
  clear hL hst L5 c5_0_0
  have hd1 := x_done (i := 1) L6.out rfl (D := true) (Lib.hid rfl)
  have hf1 := fun n => x_failed (i := 1) (L6.out.drewN n) rfl
  have hd2 := fun n => x_done (i := 2) (L6.out.drewN n) rfl (D := true) (Lib.hid rfl)
  have hf2 := fun n => x_failed (i := 2) (L6.out.drewN n) rfl
  have HF := Lib.hid (fun n => below_trans2 HB1.out (L6.out.drewN n).old)
  clear L6
  go_wp2_with (first
    | (go_at_call 35; (with_reducible refine hd1.mono ?_); rintro e y1 ⟨rfl, n1, rfl⟩)
    | (go_at_call 37; (with_reducible refine (hf1 _).mono ?_); rintro e y2 ⟨rfl, rfl⟩)
    | (go_at_call 35; (with_reducible refine (hd2 _).mono ?_); rintro e y3 ⟨rfl, n3, rfl⟩)
    | (go_at_call 37; (with_reducible refine (hf2 _).mono ?_); rintro e y4 ⟨rfl, rfl⟩))
  go_ret
  exact ⟨rfl, HF.out _⟩
end Go.Proofs.Ytdegclfbnldgaaa.VaL
