/-
  Layer 15's statements' own functions: config, wants; the sanity check awake.
-/
import Derived.Test.YtphnadchdhblpaaGreatLkB
import Derived.Test.YtphnadchdhblpaaGreatArgL
namespace Go.Proofs.YtphnadchdhblpaaGreat.LkL
open Go.ChangeShapes Go.WideShapes Go.ChangeAt Go.RowKit
open LawFrame PlainT BlkW LayS LayA LayH LayK LayP CelS CelM CelP CelV CelN CelO CelI CelF CelB LabD LabR LabP LabS LabX LabN CelLo RsA ObjA LkP SrtA LkA LkB ArgL
set_option linter.unusedVariables false
set_option maxHeartbeats 2000000
set_option maxRecDepth 100000

abbrev q6 : Cfg := ⟨6, 6, 0, 0, 0, 0, 0, 6, 6, 0, 0, 0, false⟩
theorem q6_valid : Valid q6 := by unfold Valid; decide
theorem l_config15 (w : World) : Calls Tryz.prog 6 #[] w fun e w' => e = .returned (cfgV q6) ∧ Below w.heap.size w w' := by
  have HB := Lib.hid (below_new w (.cells (cells q6) TC))
  have HM := Lib.hid (Mem.new w TC (cells q6))
  go_enter Tryz.func6, Tryz.ntmps6
  go_wp2
  refine bodyPost_ret (v := cfgV q6) (results_cell_row rfl _ _ w.heap.size TC (cells q6) (0, 0) _ (by simp) HM.out Tryz.underlying33 rfl (by kernel_rfl)) rfl ⟨rfl, HB.out⟩
/-- The ownership records that a thread wants. -/
theorem wants_one {w0 : World} {A : Option Addr} {n : Nat} (h : LL w0 A n) (c t : Nat) (ht : t < 3) : ∃ W : List Int, W.length ≤ 8 ∧ (∀ x ∈ W, 0 ≤ x ∧ x ≤ 5) ∧ ∀ w, Below w0.heap.size w0 w →
    Calls Tryz.prog 12 #[.slice A n c, .int .i64 t] w fun e w' => ∃ p cap, e = .returned (.slice p W.length cap) ∧ RdR .i64 w' (.slice p W.length cap) W ∧ Below w.heap.size w w' := by
  have htI : (t : Int) < 3 := by omega
  have ht0 : (0 : Int) ≤ t := by omega
  by_cases hn : n ≤ t
  · refine ⟨[(t : Int)], by simp, fun x hx => by simp at hx; omega, fun w hb => ?_⟩
    have hnI : (n : Int) ≤ t := by omega
    have hm : (t : Int).tmod 6 = t := by rw [Int.tmod_eq_emod_of_nonneg ht0]; omega
    have hR : Hid (RdR .i64 (w.alloc (.cells #[.int .i64 t] TI)) (.slice (some ⟨w.heap.size, 0, none⟩) 1 1) [(t : Int)]) := Lib.hid ⟨⟨_, 1, rfl, Nat.le_refl _, by decide, fun j x hj => ⟨w.heap.size, 0, rfl, by
      have hj0 : j = 0 := by have := (List.getElem?_eq_some_iff.1 hj).1; simp at this; exact this
      subst hj0
      simp at hj
      subst hj
      exact (Mem.new w TI #[.int .i64 t]).cell 0⟩⟩, fun g hg => by
        have : w.heap.size = g := by simpa [Value.ownBlock] using hg
        rw [size_new]
        omega⟩
    clear h hb hn
    go_enter Tryz.func12, Tryz.ntmps12
    go_wp2
    go_ret
    exact ⟨_, _, rfl, hR.out, below_new w _⟩
  · have hlt : t < n := by omega
    obtain ⟨b, off, Ai, ni, ci, zi, rfl, hb0, hcell, hni, hci, hints⟩ := h t hlt
    obtain ⟨hz1, hz2, hz3⟩ := hints
    refine ⟨(zi.take 8).map fun z => pl z 6, by simp; omega, fun x hx => ?_, fun w hb => ?_⟩
    · obtain ⟨z, _, rfl⟩ := List.mem_map.1 hx
      have := pl_in z 6 (by decide) (by decide)
      omega
    have hltI : (t : Int) < n := by omega
    have hdec : decide (n ≤ t) = false := decide_eq_false (by omega)
    have hcw : ∀ w', Below w0.heap.size w0 w' → w'.cell? ⟨b, off + t, none⟩ = some (.slice Ai ni ci) := fun w' hb' => (World.cell?_of_block (hb'.block b hb0)).trans hcell
    have hcz : ∀ w', Below w0.heap.size w0 w' → ∀ i, i < ni → ∃ gi oi x, Ai = some ⟨gi, oi, none⟩ ∧ zi[i]? = some x ∧ w'.cell? ⟨gi, oi + i, none⟩ = some (.int .i64 x) := fun w' hb' i hi => by
      obtain ⟨gi, oi, rfl, hgi, hc⟩ := hz3 (by omega)
      exact ⟨gi, oi, zi.getD i 0, rfl, by rw [List.getD_eq_getElem?_getD, List.getElem?_eq_getElem (by omega : i < zi.length)]; rfl, (World.cell?_of_block (hb'.block gi hgi)).trans (hc i hi)⟩
    have HW := Lib.hid hcw
    have HZ := Lib.hid hcz
    have HN := Lib.hid hz1
    have HB := Lib.hid hb
    clear h hn hb hcw hcz hz1 hz2 hz3 hcell hb0
    go_enter Tryz.func12, Tryz.ntmps12
    go_wp2_with fail
    go_loopw [5, 6] (fun sv iv wr => ∃ (i : Nat) (Ao : Option Addr) (co : Nat), i ≤ 8 ∧ i ≤ ni ∧ iv = .int .i64 i ∧ sv = .slice Ao i co ∧ OwnI wr w.heap.size (.slice Ao i co) ((zi.take i).map fun z => pl z 6) ∧ Below w.heap.size w wr) (fun _ iv _ => 8 - (intOf iv).toNat)
    case atStart => exact ⟨0, none, 0, by omega, by omega, rfl, rfl, World.ownsRow_nil _ _ _ _, Below.refl _ _⟩
    case round =>
      obtain ⟨i, Ao, co, hi8, hin, rfl, rfl, hown, hbw⟩ := hrel
      have HO := Lib.hid hown
      have HBW := Lib.hid hbw
      have hB := below_trans2 HB.out hbw
      have c1 := HW.out wr hB
      clear hown hbw
      by_cases hi : i < ni
      · have hiI : (i : Int) < ni := by omega
        obtain ⟨gi, oi, x, rfl, hx, c2⟩ := HZ.out wr hB i hi
        by_cases h8 : i < 8
        · have h8I : (i : Int) < 8 := by omega
          have hxl : ((zi.take i).map fun z => pl z 6).length = i := by rw [List.length_map, List.length_take, HN.out]; omega
          obtain ⟨v, hv⟩ : ∃ v, pl x 6 = v := ⟨_, rfl⟩
          have hpl := k_place x 6 v (by decide) (by decide) hv
          have ho := HO.out
          obtain ⟨A2, c2', w2, hrun, hown2, hbel2, hfar2, _⟩ := push_i HBW.out.size ho (by rw [hxl]; omega) v
          rw [hxl] at hrun hown2
          have HO2 := Lib.hid hown2
          have HB2 := Lib.hid (HBW.out.trans hbel2)
          have HV := Lib.hid (And.intro hv hx)
          have HXL := Lib.hid hxl
          clear hown2 hbel2 hfar2 ho hB hv hx hxl
          go_wp2_with (first | (go_at_call 8; (with_reducible refine (hpl _).mono ?_); rintro e w9 ⟨rfl, rfl⟩) | (at_builtin; refine wpList_append_run rfl _ _ _ rfl hrun (by rfl) (by rfl) ?_))
          go_roundw
          case rel =>
            obtain ⟨hv, hx⟩ := HV.out
            refine ⟨i + 1, A2, c2', by omega, by omega, by go_num, rfl, ?_, HB2.out⟩
            have e : (zi.take (i + 1)).map (fun z => pl z 6) = (zi.take i).map (fun z => pl z 6) ++ [v] := by rw [List.take_add_one, hx, List.map_append, ← hv]; rfl
            have := HO2.out
            unfold OwnI at this ⊢
            rw [e]
            exact this
          case measure => simp [intOf]; omega
        · obtain rfl : i = 8 := by omega
          have hwl : Hid (((zi.take 8).map fun z => pl z 6).length = 8) := Lib.hid (by rw [List.length_map, List.length_take, HN.out]; omega)
          have hR := Lib.hid (rdr_own HO.out)
          have HBF := Lib.hid HBW.out
          clear HZ HW hB h8 hi8 HO
          go_wp2_with fail
          go_ret
          rw [hwl.out]
          exact ⟨Ao, co, rfl, hR.out, HBF.out⟩
      · obtain rfl : i = ni := by omega
        have hwe : Hid (zi.take 8 = zi.take i) := Lib.hid (by rw [List.take_of_length_le (by rw [HN.out]; omega), List.take_of_length_le (by rw [HN.out]; omega)])
        have hwl : Hid (((zi.take i).map fun z => pl z 6).length = i) := Lib.hid (by rw [List.length_map, List.length_take, HN.out]; omega)
        have hR := Lib.hid (rdr_own HO.out)
        have HBF := Lib.hid HBW.out
        clear HZ HW hB hi8 HO hi hin
        go_wp2_with fail
        go_ret
        rw [hwe.out, hwl.out]
        exact ⟨Ao, co, rfl, hR.out, HBF.out⟩
theorem l_wants {w0 : World} {A : Option Addr} {n : Nat} (h : LL w0 A n) (c : Nat) : ∃ W : Nat → List Int, ∀ t, t < 3 → (W t).length ≤ 8 ∧ (∀ x ∈ W t, 0 ≤ x ∧ x ≤ 5) ∧ ∀ w, Below w0.heap.size w0 w →
    Calls Tryz.prog 12 #[.slice A n c, .int .i64 t] w fun e w' => ∃ p cap, e = .returned (.slice p (W t).length cap) ∧ RdR .i64 w' (.slice p (W t).length cap) (W t) ∧ Below w.heap.size w w' := by
  have key : ∀ t : Nat, ∃ W : List Int, t < 3 → W.length ≤ 8 ∧ (∀ x ∈ W, 0 ≤ x ∧ x ≤ 5) ∧ ∀ w, Below w0.heap.size w0 w → Calls Tryz.prog 12 #[.slice A n c, .int .i64 t] w fun e w' => ∃ p cap, e = .returned (.slice p W.length cap) ∧ RdR .i64 w' (.slice p W.length cap) W ∧ Below w.heap.size w w' := fun t => by
    by_cases ht : t < 3
    · obtain ⟨W, hW⟩ := wants_one h c t ht
      exact ⟨W, fun _ => hW⟩
    · exact ⟨[], fun h => absurd h ht⟩
  obtain ⟨W, hW⟩ := Classical.axiomOfChoice key
  exact ⟨W, fun t ht => hW t ht⟩
/-! The sanity check. -/
theorem begun_six {w0 w : World} {nt : Nat} {A : Int → List Int} {lo hi b rb : Nat} (h : BegunN w0 q6 nt A lo hi b rb w) : A 2 = [0, 0, 0, 0, 0, 0] ∧ (A 3).length = 1 ∧ (A 4).length = 1 ∧ (A 5).length = 1 := by
  obtain ⟨⟨n, no, hn, hno, rfl⟩, _⟩ := h
  have : no = 6 := by have : (6 : Int) = no := hno; omega
  subst this
  exact ⟨rfl, rfl, rfl, rfl⟩
theorem vok_of {V : List Int} (h : V.length = 6) (h2 : ∀ x ∈ V, 0 ≤ x ∧ x ≤ 1000000) : VOk V := by
  refine ⟨h, fun i => ?_⟩
  rcases Nat.lt_or_ge i V.length with h1 | h1
  · rw [List.getD_eq_getElem?_getD, List.getElem?_eq_getElem h1]
    exact h2 _ (List.getElem_mem h1)
  · rw [List.getD_eq_getElem?_getD, List.getElem?_eq_none h1]
    decide
theorem rdr_lit (w : World) (xs : List Int) (hl : xs.length ≤ maxLen) : RdR .i64 (w.alloc (.cells (xs.map (Value.int .i64)).toArray TI)) (.slice (some ⟨w.heap.size, 0, none⟩) xs.length xs.length) xs :=
  ⟨⟨_, _, rfl, Nat.le_refl _, hl, fun j x hj => ⟨w.heap.size, 0, rfl, by
    rw [(Mem.new w TI (xs.map (Value.int .i64)).toArray).cell]
    rw [Nat.zero_add, List.getElem?_toArray, List.getElem?_map, hj]
    rfl⟩⟩, fun g hg => by
    have : w.heap.size = g := by simpa [Value.ownBlock] using hg
    rw [size_new]
    omega⟩
theorem rdi_of_rdr {w : World} {v : Value} {xs : List Int} (h : RdR .i64 w v xs) : FreI.RdI w v xs := by
  obtain ⟨⟨p, c, rfl, _, _, hc⟩, _⟩ := h
  exact ⟨p, c, rfl, hc⟩
theorem upd2 {A : Int → List Int} {o : Nat} {x : Int} : upd A 2 o x 2 = (A 2).set o x := if_pos rfl
theorem upd_len3 {A : Int → List Int} {o : Nat} {x k : Int} (hk : k ≠ 2) : upd A 2 o x k = A k := if_neg hk
theorem l_start15 (nt : Nat) (z : Int) (hz : z = nt) (t1 : 1 ≤ nt) (t2 : nt ≤ 16) (w : World) : Calls Tryz.prog 5 #[cfgV q6, .int .i64 z] w fun e w' => ∃ A lo hi b rb, e = .returned (.tuple #[pairV b rb, .bool true]) ∧ BegunN w q6 nt A lo hi b rb w' := by
  subst hz
  exact l_startn q6 (Lib.hid q6_valid) nt t1 t2 w
theorem a_sorted313 (W : World) : Calls Tryz.prog 29 #[.slice (some ⟨W.heap.size, 0, none⟩) 3 3] (W.alloc (.cells #[.int .i64 3, .int .i64 1, .int .i64 3] TI)) fun e w' => ∃ p c, e = .returned (.slice p 2 c) ∧ RdR .i64 w' (.slice p 2 c) [1, 3] ∧ Below W.heap.size W w' := by
  refine (k_sorted _ (.slice (some ⟨W.heap.size, 0, none⟩) 3 3) [3, 1, 3] (rdr_lit W [3, 1, 3] (by decide)).slice (by decide)).mono ?_
  rintro e w' ⟨v, rfl, ho, hb⟩
  obtain ⟨p, c, rfl, _⟩ := own_slice ho
  exact ⟨p, c, rfl, rdr_own ho, below_trans2 (below_new W _) hb⟩
theorem a_ints13 {W : World} {p : Option Addr} {c : Nat} (h : RdR .i64 W (.slice p 2 c) [1, 3]) : Calls Tryz.prog 28 #[.slice p 2 c, .slice (some ⟨W.heap.size, 0, none⟩) 2 2] (W.alloc (.cells #[.int .i64 1, .int .i64 3] TI)) fun e w' => e = .returned (.bool true) ∧ Below W.heap.size W w' :=
  (FreI.k_ints _ _ _ [1, 3] (rdi_of_rdr (rdr_below h (below_new W _))) (rdi_of_rdr (rdr_lit W [1, 3] (by decide))) (by decide)).mono fun e w' ⟨he, n, hw⟩ => ⟨he, by rw [hw]; exact below_drewN (below_new W _) n⟩
theorem l_awake (w : World) : Calls Tryz.prog 4 #[] w fun e w' => e = .returned (.bool true) ∧ Below w.heap.size w w' := by
  go_enter Tryz.func4, Tryz.ntmps4
  go_upto_region 2 with (first
    | (go_at_call 6; (with_reducible refine (l_config15 _).mono ?_); rintro e w1 ⟨rfl, hb1⟩)
    | (go_at_call 5; (with_reducible refine (l_start15 2 2 rfl (by decide) (by decide) _).mono ?_); rintro e w2 ⟨A, lo, hi, b, rb, rfl, hst⟩))
  have L0 : Hid (Lo w1 lo hi b rb q6 A A [] w2) := Lib.hid (Lo.begunN hst)
  obtain ⟨hA2, hA3, hA4, hA5⟩ := begun_six hst
  have HB1 := Lib.hid hb1
  have HA := Lib.hid (And.intro hA3 (And.intro hA4 hA5))
  clear hst hb1 hA3 hA4 hA5
  have L1 := Lib.hid (L0.out.new TP #[.pointer (some ⟨b, 0, none⟩), .pointer (some ⟨rb, 0, none⟩)])
  obtain ⟨gp, hn⟩ : ∃ gp, w2.heap.size = gp := ⟨_, rfl⟩
  rw [hn] at L1
  first | rw [hn] | skip
  clear hn
  obtain ⟨W1, hW⟩ : ∃ W', w2.alloc (.cells #[.pointer (some ⟨b, 0, none⟩), .pointer (some ⟨rb, 0, none⟩)] TP) = W' := ⟨_, rfl⟩
  rw [hW] at L1
  first | rw [hW] | skip
  clear hW
  have L1 : Hid (Lo w1 lo hi b rb q6 A A [bx gp TP #[.pointer (some ⟨b, 0, none⟩), .pointer (some ⟨rb, 0, none⟩)]] W1) := L1
  clear L0
  have hnga : Calls Tryz.prog 11 #[.int .i64 0, .slice (some ⟨W1.heap.size, 0, none⟩) 3 3] (W1.alloc (.cells #[.int .i64 3, .int .i64 1, .int .i64 3] TI)) _ := x_new (L1.out.alloc (.cells #[.int .i64 3, .int .i64 1, .int .i64 3] TI)) 0 (.slice (some ⟨W1.heap.size, 0, none⟩) 3 3) [3, 1, 3] (rdr_lit W1 [3, 1, 3] (by decide)) (by decide)
  have hnb : ∀ wz g1 v1, Lo w1 lo hi b rb q6 A A [bx gp TP #[.pointer (some ⟨b, 0, none⟩), .pointer (some ⟨rb, 0, none⟩)], lkM g1 0 v1 (.slice none 0 0) ⟨srt [3, 1, 3], [], false, 0⟩] wz → Calls Tryz.prog 11 #[.int .i64 1, .slice (some ⟨wz.heap.size, 0, none⟩) 1 1] (wz.alloc (.cells #[.int .i64 1] TI)) _ := fun wz g1 v1 h => x_new (h.alloc (.cells #[.int .i64 1] TI)) 1 (.slice (some ⟨wz.heap.size, 0, none⟩) 1 1) [1] (rdr_lit wz [1] (by decide)) (by decide)
  go_upto_region 3 with (first | (go_at_call 11; (with_reducible refine hnga.mono ?_); rintro e wga ⟨ga, va, rfl, hLga⟩; have hnb := hnb _ _ _ hLga) | (go_at_call 11; (with_reducible refine hnb.mono ?_); rintro e wb ⟨gb, vb, rfl, hL⟩))
  have L2 : Hid (Lo w1 lo hi b rb q6 A A [bx gp TP #[.pointer (some ⟨b, 0, none⟩), .pointer (some ⟨rb, 0, none⟩)], lkM ga 0 va (.slice none 0 0) ⟨[1, 3], [], false, 0⟩, lkM gb 1 vb (.slice none 0 0) ⟨[1], [], false, 0⟩] wb) := Lib.hid hL
  clear hL hLga hnga hnb L1
  go_upto_region 5 with (fail)
  have c2_0_0 : wb.cell? ⟨gp, 0, none⟩ = some (.pointer (some ⟨b, 0, none⟩)) := L2.out.c 0 0 rfl rfl
  have hst := x_step (i := 1) (s := ⟨[1, 3], [], false, 0⟩) L2.out rfl ⟨by decide, by decide, by decide, by decide⟩ (vok_of (by rw [hA2]; rfl) (by rw [hA2]; decide)) (by decide) (by decide) (Lib.hid (show lsAc 0 ⟨[1, 3], [], false, 0⟩ (A 2) = (1, 2, 1, 0, 0, true) by rw [hA2]; rfl))
  go_upto_region 6 with (go_at_call 18; (with_reducible refine hst.mono ?_); rintro e x1 ⟨rfl, v1, u1, hL⟩)
  have L3 : Hid (Lo w1 lo hi b rb q6 (upd A 2 1 0) A [bx gp TP #[.pointer (some ⟨b, 0, none⟩), .pointer (some ⟨rb, 0, none⟩)], lkM ga 0 v1 u1 ⟨[1, 3], [], true, 0⟩, lkM gb 1 vb (.slice none 0 0) ⟨[1], [], false, 0⟩] x1) := Lib.hid (by rw [hA2] at hL; exact hL)
  obtain ⟨A1, hAn⟩ : ∃ A1, upd A 2 1 0 = A1 := ⟨_, rfl⟩
  have hB1 : A1 2 = [0, 0, 0, 0, 0, 0] := by rw [← hAn, upd2, hA2]; rfl
  have HA := Lib.hid (show (A1 3).length = 1 ∧ (A1 4).length = 1 ∧ (A1 5).length = 1 by rw [← hAn, upd_len3 (by decide), upd_len3 (by decide), upd_len3 (by decide)]; exact HA.out)
  rw [hAn] at L3
  clear hL hst hAn hA2 L2 c2_0_0
  have L4 := Lib.hid (L3.out.new 59 #[.int .i64 1, .int .i64 2, .int .i64 1, .int .u64 0, .int .u64 0, .bool true])
  obtain ⟨gx, hn⟩ : ∃ gx, x1.heap.size = gx := ⟨_, rfl⟩
  rw [hn] at L4
  first | rw [hn] | skip
  clear hn
  obtain ⟨W4, hW⟩ : ∃ W', x1.alloc (.cells #[.int .i64 1, .int .i64 2, .int .i64 1, .int .u64 0, .int .u64 0, .bool true] 59) = W' := ⟨_, rfl⟩
  rw [hW] at L4
  first | rw [hW] | skip
  clear hW
  have L4 : Hid (Lo w1 lo hi b rb q6 A1 A [bx gp TP #[.pointer (some ⟨b, 0, none⟩), .pointer (some ⟨rb, 0, none⟩)], lkM ga 0 v1 u1 ⟨[1, 3], [], true, 0⟩, lkM gb 1 vb (.slice none 0 0) ⟨[1], [], false, 0⟩, bx gx 59 #[.int .i64 1, .int .i64 2, .int .i64 1, .int .u64 0, .int .u64 0, .bool true]] W4) := L4
  clear L3
  have c4_0_0 : W4.cell? ⟨gp, 0, none⟩ = some (.pointer (some ⟨b, 0, none⟩)) := L4.out.c 0 0 rfl rfl
  have hst := x_step (i := 1) (s := ⟨[1, 3], [], true, 0⟩) L4.out rfl ⟨by decide, by decide, by decide, by decide⟩ (vok_of (by rw [hB1]; rfl) (by rw [hB1]; decide)) (by decide) (by decide) (Lib.hid (show lsAc 0 ⟨[1, 3], [], true, 0⟩ (A1 2) = (3, 2, 1, 0, 1, true) by rw [hB1]; rfl))
  go_upto_region 7 with (go_at_call 18; (with_reducible refine hst.mono ?_); rintro e x2 ⟨rfl, v2, u2, hL⟩)
  have L5 : Hid (Lo w1 lo hi b rb q6 (upd A1 2 1 1) A [bx gp TP #[.pointer (some ⟨b, 0, none⟩), .pointer (some ⟨rb, 0, none⟩)], lkM ga 0 v2 u2 ⟨[1, 3], [0], false, 0⟩, lkM gb 1 vb (.slice none 0 0) ⟨[1], [], false, 0⟩, bx gx 59 #[.int .i64 1, .int .i64 2, .int .i64 1, .int .u64 0, .int .u64 0, .bool true]] x2) := Lib.hid (by rw [hB1] at hL; exact hL)
  obtain ⟨A2, hAn⟩ : ∃ A2, upd A1 2 1 1 = A2 := ⟨_, rfl⟩
  have hB2 : A2 2 = [0, 1, 0, 0, 0, 0] := by rw [← hAn, upd2, hB1]; rfl
  have HA := Lib.hid (show (A2 3).length = 1 ∧ (A2 4).length = 1 ∧ (A2 5).length = 1 by rw [← hAn, upd_len3 (by decide), upd_len3 (by decide), upd_len3 (by decide)]; exact HA.out)
  rw [hAn] at L5
  clear hL hst hAn hB1 L4 c4_0_0
  have c5_0_0 : x2.cell? ⟨gp, 0, none⟩ = some (.pointer (some ⟨b, 0, none⟩)) := L5.out.c 0 0 rfl rfl
  have hst := x_step (i := 2) (s := ⟨[1], [], false, 0⟩) L5.out rfl ⟨by decide, by decide, by decide, by decide⟩ (vok_of (by rw [hB2]; rfl) (by rw [hB2]; decide)) (by decide) (by decide) (Lib.hid (show lsAc 1 ⟨[1], [], false, 0⟩ (A2 2) = (1, 2, 1, 1, 1, true) by rw [hB2]; rfl))
  go_upto_region 8 with (go_at_call 18; (with_reducible refine hst.mono ?_); rintro e x3 ⟨rfl, v3, u3, hL⟩)
  have L6 : Hid (Lo w1 lo hi b rb q6 (upd A2 2 1 1) A [bx gp TP #[.pointer (some ⟨b, 0, none⟩), .pointer (some ⟨rb, 0, none⟩)], lkM ga 0 v2 u2 ⟨[1, 3], [0], false, 0⟩, lkM gb 1 v3 u3 ⟨[1], [], false, 1⟩, bx gx 59 #[.int .i64 1, .int .i64 2, .int .i64 1, .int .u64 0, .int .u64 0, .bool true]] x3) := Lib.hid (by rw [hB2] at hL; exact hL)
  obtain ⟨A3, hAn⟩ : ∃ A3, upd A2 2 1 1 = A3 := ⟨_, rfl⟩
  have hB3 : A3 2 = [0, 1, 0, 0, 0, 0] := by rw [← hAn, upd2, hB2]; rfl
  have HA := Lib.hid (show (A3 3).length = 1 ∧ (A3 4).length = 1 ∧ (A3 5).length = 1 by rw [← hAn, upd_len3 (by decide), upd_len3 (by decide), upd_len3 (by decide)]; exact HA.out)
  rw [hAn] at L6
  clear hL hst hAn hB2 L5 c5_0_0
  have c6_0_0 : x3.cell? ⟨gp, 0, none⟩ = some (.pointer (some ⟨b, 0, none⟩)) := L6.out.c 0 0 rfl rfl
  have hst := x_step (i := 2) (s := ⟨[1], [], false, 1⟩) L6.out rfl ⟨by decide, by decide, by decide, by decide⟩ (vok_of (by rw [hB3]; rfl) (by rw [hB3]; decide)) (by decide) (by decide) (Lib.hid (show lsAc 1 ⟨[1], [], false, 1⟩ (A3 2) = (1, 2, 1, 1, 1, true) by rw [hB3]; rfl))
  go_upto_region 9 with (go_at_call 18; (with_reducible refine hst.mono ?_); rintro e x4 ⟨rfl, v4, u4, hL⟩)
  have L7 : Hid (Lo w1 lo hi b rb q6 (upd A3 2 1 1) A [bx gp TP #[.pointer (some ⟨b, 0, none⟩), .pointer (some ⟨rb, 0, none⟩)], lkM ga 0 v2 u2 ⟨[1, 3], [0], false, 0⟩, lkM gb 1 v4 u4 ⟨[1], [], false, 1⟩, bx gx 59 #[.int .i64 1, .int .i64 2, .int .i64 1, .int .u64 0, .int .u64 0, .bool true]] x4) := Lib.hid (by rw [hB3] at hL; exact hL)
  obtain ⟨A4, hAn⟩ : ∃ A4, upd A3 2 1 1 = A4 := ⟨_, rfl⟩
  have hB4 : A4 2 = [0, 1, 0, 0, 0, 0] := by rw [← hAn, upd2, hB3]; rfl
  have HA := Lib.hid (show (A4 3).length = 1 ∧ (A4 4).length = 1 ∧ (A4 5).length = 1 by rw [← hAn, upd_len3 (by decide), upd_len3 (by decide), upd_len3 (by decide)]; exact HA.out)
  rw [hAn] at L7
  clear hL hst hAn hB3 L6 c6_0_0
  have c7_0_0 : x4.cell? ⟨gp, 0, none⟩ = some (.pointer (some ⟨b, 0, none⟩)) := L7.out.c 0 0 rfl rfl
  have hst := x_step (i := 1) (s := ⟨[1, 3], [0], false, 0⟩) L7.out rfl ⟨by decide, by decide, by decide, by decide⟩ (vok_of (by rw [hB4]; rfl) (by rw [hB4]; decide)) (by decide) (by decide) (Lib.hid (show lsAc 0 ⟨[1, 3], [0], false, 0⟩ (A4 2) = (1, 2, 3, 0, 0, true) by rw [hB4]; rfl))
  go_upto_region 10 with (go_at_call 18; (with_reducible refine hst.mono ?_); rintro e x5 ⟨rfl, v5, u5, hL⟩)
  have L8 : Hid (Lo w1 lo hi b rb q6 (upd A4 2 3 0) A [bx gp TP #[.pointer (some ⟨b, 0, none⟩), .pointer (some ⟨rb, 0, none⟩)], lkM ga 0 v5 u5 ⟨[1, 3], [0], true, 0⟩, lkM gb 1 v4 u4 ⟨[1], [], false, 1⟩, bx gx 59 #[.int .i64 1, .int .i64 2, .int .i64 1, .int .u64 0, .int .u64 0, .bool true]] x5) := Lib.hid (by rw [hB4] at hL; exact hL)
  obtain ⟨A5, hAn⟩ : ∃ A5, upd A4 2 3 0 = A5 := ⟨_, rfl⟩
  have hB5 : A5 2 = [0, 1, 0, 0, 0, 0] := by rw [← hAn, upd2, hB4]; rfl
  have HA := Lib.hid (show (A5 3).length = 1 ∧ (A5 4).length = 1 ∧ (A5 5).length = 1 by rw [← hAn, upd_len3 (by decide), upd_len3 (by decide), upd_len3 (by decide)]; exact HA.out)
  rw [hAn] at L8
  clear hL hst hAn hB4 L7 c7_0_0
  have c8_0_0 : x5.cell? ⟨gp, 0, none⟩ = some (.pointer (some ⟨b, 0, none⟩)) := L8.out.c 0 0 rfl rfl
  have hst := x_step (i := 1) (s := ⟨[1, 3], [0], true, 0⟩) L8.out rfl ⟨by decide, by decide, by decide, by decide⟩ (vok_of (by rw [hB5]; rfl) (by rw [hB5]; decide)) (by decide) (by decide) (Lib.hid (show lsAc 0 ⟨[1, 3], [0], true, 0⟩ (A5 2) = (3, 2, 3, 0, 1, true) by rw [hB5]; rfl))
  go_upto_region 11 with (go_at_call 18; (with_reducible refine hst.mono ?_); rintro e x6 ⟨rfl, v6, u6, hL⟩)
  have L9 : Hid (Lo w1 lo hi b rb q6 (upd A5 2 3 1) A [bx gp TP #[.pointer (some ⟨b, 0, none⟩), .pointer (some ⟨rb, 0, none⟩)], lkM ga 0 v6 u6 ⟨[1, 3], [0, 0], false, 0⟩, lkM gb 1 v4 u4 ⟨[1], [], false, 1⟩, bx gx 59 #[.int .i64 1, .int .i64 2, .int .i64 1, .int .u64 0, .int .u64 0, .bool true]] x6) := Lib.hid (by rw [hB5] at hL; exact hL)
  obtain ⟨A6, hAn⟩ : ∃ A6, upd A5 2 3 1 = A6 := ⟨_, rfl⟩
  have hB6 : A6 2 = [0, 1, 0, 1, 0, 0] := by rw [← hAn, upd2, hB5]; rfl
  have HA := Lib.hid (show (A6 3).length = 1 ∧ (A6 4).length = 1 ∧ (A6 5).length = 1 by rw [← hAn, upd_len3 (by decide), upd_len3 (by decide), upd_len3 (by decide)]; exact HA.out)
  rw [hAn] at L9
  clear hL hst hAn hB5 L8 c8_0_0
  have c9_0_0 : x6.cell? ⟨gp, 0, none⟩ = some (.pointer (some ⟨b, 0, none⟩)) := L9.out.c 0 0 rfl rfl
  have c9_3_2 : x6.cell? ⟨gx, 2, none⟩ = some (.int .i64 1) := L9.out.c 3 2 rfl rfl
  have hd1 := x_done (i := 1) L9.out rfl (D := true) (Lib.hid rfl)
  have hd2 := x_done (i := 2) L9.out rfl (D := false) (Lib.hid rfl)
  have ho := x_old (i := 1) L9.out rfl ⟨by decide, by decide, by decide, by decide⟩
  have hfl := @fld_orec
  have him := fun (W : World) (hb : Below x6.heap.size x6 W) => lo_image6 (L9.out.below hb) hB6 rfl HA.out
  have HL := L9
  go_wp2_with (first
    | (go_at_call 14; (with_reducible refine hd1.mono ?_); rintro e y1 ⟨rfl, rfl⟩)
    | (go_at_call 14; (with_reducible refine hd2.mono ?_); rintro e y2 ⟨rfl, rfl⟩)
    | (go_at_call 17; (with_reducible refine ho.mono ?_); rintro e y3 ⟨Ao, co, rfl, _, hb3⟩; have hLo := HL.out.below hb3; have e1 := hLo.c 0 0 rfl rfl; have him := him _ hb3)
    | (go_at_call 27; (with_reducible refine him.mono ?_); rintro e y4 ⟨ic, it, is, vd, gi, oi, ci, vl, vh, vn, rfl, hcell, _, _, hLi⟩; have e2 := hcell 1 1 rfl)
    | (go_at_call 29; (with_reducible refine (a_sorted313 _).mono ?_); rintro e y5 ⟨p5, c5, rfl, hr5, hb5⟩; have hin := a_ints13 hr5)
    | (go_at_call 28; (with_reducible refine hin.mono ?_); rintro e y6 ⟨rfl, hb6⟩))
  have HF := Lib.hid (below_trans2 HB1.out (below_trans2 (below_trans2 hLi.old hb5) hb6))
  clear hfl hd1 hd2 ho him hLo hLi hb3 hb5 hb6 hin hr5
  go_ret
  exact ⟨rfl, HF.out⟩
end Go.Proofs.YtphnadchdhblpaaGreat.LkL
