/-
  Layer 17's statements' own functions: config, addrs, TwinWords; the sanity check awake.
-/
import Derived.Test.YtfondhajedkmbaaWrB
import Derived.Test.YtfondhajedkmbaaCelT
namespace Go.Proofs.Ytfondhajedkmbaa.WrL
open Go.ChangeShapes Go.WideShapes Go.ChangeAt Go.RowKit
open LawFrame PlainT BlkW LayS LayA LayH LayK LayP CelS CelM CelP CelV CelN CelO CelI CelQ CelF CelB LabD LabR LabP LabS LabX LabN CelLo RsA ObjA ClnA WrA WrB
set_option linter.unusedVariables false
set_option maxHeartbeats 2000000
set_option maxRecDepth 100000

theorem l_config17 (w : World) : Calls Try.prog 29 #[] w fun e w' => e = .returned (cfgV q8) ∧ Below w.heap.size w w' := by
  have HB := Lib.hid (below_new w (.cells (cells q8) TC))
  have HM := Lib.hid (Mem.new w TC (cells q8))
  go_enter Try.func29, Try.ntmps29
  go_wp2
  refine bodyPost_ret (v := cfgV q8) (results_cell_row rfl _ _ w.heap.size TC (cells q8) (0, 0) _ (by simp) HM.out Try.underlying43 rfl (by kernel_rfl)) rfl ⟨rfl, HB.out⟩
/-- A list out of numbers. -/
theorem l_addrs {w0 : World} {A : Option Addr} {n : Nat} {z : List Int} (h : Ints .i64 w0 A n z) (c : Nat) : ∃ W : List Int, W.length ≤ 12 ∧ (∀ x ∈ W, 0 ≤ x ∧ x ≤ 7) ∧ ∀ w, Below w0.heap.size w0 w →
    Calls Try.prog 32 #[.slice A n c] w fun e w' => ∃ p cap, e = .returned (.slice p W.length cap) ∧ w'.ownsRow w.heap.size TI 1 (.slice p W.length cap) W.length (W.map (Value.int .i64)) ∧ Below w.heap.size w w' := by
  obtain ⟨hz1, hz2, hz3⟩ := h
  refine ⟨(z.take 12).map fun x => pl x 8, by simp; omega, fun x hx => ?_, fun w hb => ?_⟩
  · obtain ⟨z, _, rfl⟩ := List.mem_map.1 hx
    have := pl_in z 8 (by decide) (by decide)
    omega
  have hcz : ∀ w', Below w0.heap.size w0 w' → ∀ i, i < n → ∃ gi oi x, A = some ⟨gi, oi, none⟩ ∧ z[i]? = some x ∧ w'.cell? ⟨gi, oi + i, none⟩ = some (.int .i64 x) := fun w' hb' i hi => by
    obtain ⟨gi, oi, rfl, hgi, hc⟩ := hz3 (by omega)
    exact ⟨gi, oi, z.getD i 0, rfl, by rw [List.getD_eq_getElem?_getD, List.getElem?_eq_getElem (by omega : i < z.length)]; rfl, (World.cell?_of_block (hb'.block gi hgi)).trans (hc i hi)⟩
  have HZ := Lib.hid hcz
  have HN := Lib.hid hz1
  have HB := Lib.hid hb
  clear hb hcz hz1 hz2 hz3
  go_enter Try.func32, Try.ntmps32
  go_wp2_with fail
  go_loopw [3, 4] (fun sv iv wr => ∃ (i : Nat) (Ao : Option Addr) (co : Nat), i ≤ 12 ∧ i ≤ n ∧ iv = .int .i64 i ∧ sv = .slice Ao i co ∧ OwnI wr w.heap.size (.slice Ao i co) ((z.take i).map fun x => pl x 8) ∧ Below w.heap.size w wr) (fun _ iv _ => 12 - (intOf iv).toNat)
  case atStart => exact ⟨0, none, 0, by omega, by omega, rfl, rfl, World.ownsRow_nil _ _ _ _, Below.refl _ _⟩
  case round =>
    obtain ⟨i, Ao, co, hi8, hin, rfl, rfl, hown, hbw⟩ := hrel
    have HO := Lib.hid hown
    have HBW := Lib.hid hbw
    have hB := below_trans2 HB.out hbw
    clear hown hbw
    by_cases hi : i < n
    · have hiI : (i : Int) < n := by omega
      obtain ⟨gi, oi, x, rfl, hx, c2⟩ := HZ.out wr hB i hi
      by_cases h8 : i < 12
      · have h8I : (i : Int) < 12 := by omega
        have hxl : ((z.take i).map fun x => pl x 8).length = i := by rw [List.length_map, List.length_take, HN.out]; omega
        obtain ⟨v, hv⟩ : ∃ v, pl x 8 = v := ⟨_, rfl⟩
        have hpl := k_place x 8 v (by decide) (by decide) hv
        have ho := HO.out
        obtain ⟨A2, c2', w2, hrun, hown2, hbel2, hfar2, _⟩ := push_i HBW.out.size ho (by rw [hxl]; omega) v
        rw [hxl] at hrun hown2
        have HO2 := Lib.hid hown2
        have HB2 := Lib.hid (HBW.out.trans hbel2)
        have HV := Lib.hid (And.intro hv hx)
        have HXL := Lib.hid hxl
        clear hown2 hbel2 hfar2 ho hB hv hx hxl
        go_wp2_with (first | (go_at_call 10; (with_reducible refine (hpl _).mono ?_); rintro e w9 ⟨rfl, rfl⟩) | (at_builtin; refine wpList_append_run rfl _ _ _ rfl hrun (by rfl) (by rfl) ?_))
        go_roundw
        case rel =>
          obtain ⟨hv, hx⟩ := HV.out
          refine ⟨i + 1, A2, c2', by omega, by omega, by go_num, rfl, ?_, HB2.out⟩
          have e : (z.take (i + 1)).map (fun x => pl x 8) = (z.take i).map (fun x => pl x 8) ++ [v] := by rw [List.take_add_one, hx, List.map_append, ← hv]; rfl
          have := HO2.out
          unfold OwnI at this ⊢
          rw [e]
          exact this
        case measure => simp [intOf]; omega
      · obtain rfl : i = 12 := by omega
        have hwl : Hid (((z.take 12).map fun x => pl x 8).length = 12) := Lib.hid (by rw [List.length_map, List.length_take, HN.out]; omega)
        have HBF := Lib.hid HBW.out
        have HR := Lib.hid HO.out
        clear HZ hB h8 hi8 HO
        go_wp2_with fail
        go_ret
        have := HR.out
        unfold OwnI at this
        rw [hwl.out] at this ⊢
        exact ⟨Ao, co, rfl, this, HBF.out⟩
    · obtain rfl : i = n := by omega
      have hwe : Hid (z.take 12 = z.take i) := Lib.hid (by rw [List.take_of_length_le (by rw [HN.out]; omega), List.take_of_length_le (by rw [HN.out]; omega)])
      have hwl : Hid (((z.take i).map fun x => pl x 8).length = i) := Lib.hid (by rw [List.length_map, List.length_take, HN.out]; omega)
      have HBF := Lib.hid HBW.out
      have HR := Lib.hid HO.out
      clear HZ hB hi8 HO hi hin
      go_wp2_with fail
      go_ret
      have := HR.out
      unfold OwnI at this
      rw [hwl.out] at this
      rw [hwe.out, hwl.out]
      exact ⟨Ao, co, rfl, this, HBF.out⟩
/-- TwinWords. -/
theorem k_twinw (w : World) (p : Option Addr) (n cap : Nat) (xs : List Int) (hs : Rd w (.slice p n cap) xs) (hn : xs.length = n) (hl : n ≤ 1000) : Calls Try.prog 39 #[.slice p n cap] w fun e w' => ∃ A c, e = .returned (.slice A n c) ∧ w'.ownsRow w.heap.size TU 1 (.slice A n c) n (xs.map (Value.int .u64)) ∧ Below w.heap.size w w' := by
  have HS := Lib.hid hs
  have HN := Lib.hid hn
  clear hs hn
  go_enter Try.func39, Try.ntmps39
  go_wp2_with fail
  go_loopw [3, 4] (fun sv iv wr => ∃ (i : Nat) (Ao : Option Addr) (co : Nat), i ≤ n ∧ iv = .int .i64 i ∧ sv = .slice Ao i co ∧ OwnU wr w.heap.size (.slice Ao i co) (xs.take i) ∧ Below w.heap.size w wr) (fun _ iv _ => n - (intOf iv).toNat)
  case atStart => exact ⟨0, none, 0, by omega, rfl, rfl, World.ownsRow_nil _ _ _ _, Below.refl _ _⟩
  case round =>
    obtain ⟨i, Ao, co, hi, rfl, rfl, hown, hbw⟩ := hrel
    have HO := Lib.hid hown
    have HBW := Lib.hid hbw
    clear hown
    by_cases hlt : i < n
    · have hiI : (i : Int) < n := by omega
      have hx : xs[i]? = some (xs[i]'(by rw [HN.out]; exact hlt)) := List.getElem?_eq_getElem _
      obtain ⟨x, hxe⟩ : ∃ x, xs[i]'(by rw [HN.out]; exact hlt) = x := ⟨_, rfl⟩
      rw [hxe] at hx
      obtain ⟨p2, c2, e, hc⟩ := HS.out
      injection e with e1 e2 e3
      subst e1
      clear e2 e3
      obtain ⟨gi, oi, rfl, hc0⟩ := hc i x hx
      have c2 := (World.cell?_of_block (hbw.block gi (World.block_lt_of_cell? _ _ hc0))).trans hc0
      have hxl : (xs.take i).length = i := by rw [List.length_take, HN.out]; omega
      obtain ⟨A2, c2', w2, hrun, hown2, hbel2, hfar2, _⟩ := push_u HBW.out.size HO.out (by rw [hxl]; omega) x
      rw [hxl] at hrun hown2
      have HO2 := Lib.hid hown2
      have HB2 := Lib.hid (HBW.out.trans hbel2)
      have HX := Lib.hid hx
      clear hown2 hbel2 hfar2 hc hc0 hx hxe hxl hbw
      go_wp2_with (at_builtin; refine wpList_append_run rfl _ _ _ rfl hrun (by rfl) (by rfl) ?_)
      go_roundw
      case rel =>
        refine ⟨i + 1, A2, c2', by omega, by go_num, rfl, ?_, HB2.out⟩
        have e : xs.take (i + 1) = xs.take i ++ [x] := by rw [List.take_add_one, HX.out]; rfl
        rw [e]
        exact HO2.out
      case measure => simp [intOf]; omega
    · obtain rfl : i = n := by omega
      have hwe : Hid (xs.take i = xs) := Lib.hid (by rw [List.take_of_length_le (by rw [HN.out]; omega)])
      have HBF := Lib.hid hbw
      have HR := Lib.hid HO.out
      clear hlt hi hbw HO
      go_wp2_with fail
      go_ret
      have := HR.out
      unfold OwnU at this
      rw [hwe.out, HN.out] at this
      exact ⟨Ao, co, rfl, this, HBF.out⟩
/-! The sanity check. -/
theorem l_awake (w : World) : Calls Try.prog 30 #[] w fun e w' => e = .returned (.bool true) ∧ Below w.heap.size w w' := by
  go_enter Try.func30, Try.ntmps30
  go_upto_region 2 with (first
    | (go_at_call 29; (with_reducible refine (l_config17 _).mono ?_); rintro e w1 ⟨rfl, hb1⟩)
    | (go_at_call 28; (with_reducible refine (start_eight 2 2 rfl (by decide) (by decide) _).mono ?_); rintro e w2 ⟨A, lo, hi, b, rb, rfl, hst⟩))
  have L0 : Hid (Lo w1 lo hi b rb q8 A A [] w2) := Lib.hid (Lo.begunN hst)
  have HA : Hid (One A) := Lib.hid (begun_eight hst)
  have HB1 := Lib.hid hb1
  clear hst hb1
  have L1 := Lib.hid (L0.out.new TP #[.pointer (some ⟨b, 0, none⟩), .pointer (some ⟨rb, 0, none⟩)])
  obtain ⟨gp, hn⟩ : ∃ gp, w2.heap.size = gp := ⟨_, rfl⟩
  rw [hn] at L1
  first | rw [hn] | skip
  clear hn
  obtain ⟨W1, hW⟩ : ∃ W', w2.alloc (.cells #[.pointer (some ⟨b, 0, none⟩), .pointer (some ⟨rb, 0, none⟩)] TP) = W' := ⟨_, rfl⟩
  rw [hW] at L1
  first | rw [hW] | skip
  clear hW
  have L1 : Hid (Lo w1 lo hi b rb q8 A A [bx gp TP #[.pointer (some ⟨b, 0, none⟩), .pointer (some ⟨rb, 0, none⟩)]] W1) := L1
  clear L0
  have hs1 : RdS .i64 (W1.alloc (.cells #[.int .i64 3, .int .i64 1] TI)) (.slice (some ⟨W1.heap.size, 0, none⟩) 2 2) [3, 1] := rds_lit W1 [3, 1] (by decide)
  have hs2 : RdS .u64 ((W1.alloc (.cells #[.int .i64 3, .int .i64 1] TI)).alloc (.cells #[.int .u64 7, .int .u64 8] TU)) (.slice (some ⟨(W1.alloc (.cells #[.int .i64 3, .int .i64 1] TI)).heap.size, 0, none⟩) 2 2) [7, 8] := rds_lit (W1.alloc (.cells #[.int .i64 3, .int .i64 1] TI)) [7, 8] (by decide)
  rw [size_new] at hs2
  have hna : Calls Try.prog 31 #[.slice (some ⟨W1.heap.size, 0, none⟩) 2 2, .slice (some ⟨W1.heap.size + 1, 0, none⟩) 2 2] ((W1.alloc (.cells #[.int .i64 3, .int .i64 1] TI)).alloc (.cells #[.int .u64 7, .int .u64 8] TU)) _ := x_new ((L1.out.alloc (.cells #[.int .i64 3, .int .i64 1] TI)).alloc (.cells #[.int .u64 7, .int .u64 8] TU)) (some ⟨W1.heap.size, 0, none⟩) (some ⟨W1.heap.size + 1, 0, none⟩) 2 2 2 2 2 [3, 1] [7, 8] (rds_below hs1 (below_new _ _)) hs2 rfl (by decide)
  clear hs1 hs2
  go_upto_region 3 with (go_at_call 31; (with_reducible refine hna.mono ?_); rintro e wb ⟨ga, v1, v2, rfl, hL⟩)
  have L2 : Hid (Lo w1 lo hi b rb q8 A A [bx gp TP #[.pointer (some ⟨b, 0, none⟩), .pointer (some ⟨rb, 0, none⟩)], wM ga v1 v2 [3, 1] [7, 8]] wb) := Lib.hid hL
  clear hL hna L1
  have hl := x_left (i := 1) L2.out rfl (z := 2) (Lib.hid rfl)
  go_upto_region 5 with (go_at_call 36; (with_reducible refine hl.mono ?_); rintro e w9 ⟨rfl, rfl⟩)
  clear hl
  have c2_0_0 : wb.cell? ⟨gp, 0, none⟩ = some (.pointer (some ⟨b, 0, none⟩)) := L2.out.c 0 0 rfl rfl
  obtain ⟨xa, hxa⟩ : ∃ x, (A 1).getD 3 0 = x := ⟨_, rfl⟩
  have hst0 := x_go (i := 1) (xs := [3, 1]) (ys := [7, 8]) (k := 0) L2.out rfl ⟨by decide, by decide⟩ rfl (by decide) HA.out.1
  have hst : Calls Try.prog 37 #[.pointer (some ⟨ga, 0, none⟩), .pointer (some ⟨b, 0, none⟩)] wb fun e w' => e = .returned (accV 2 1 3 xa 7 true) ∧ ∃ v1' v2', Lo w1 lo hi b rb q8 (upd A 1 3 7) A [bx gp TP #[.pointer (some ⟨b, 0, none⟩), .pointer (some ⟨rb, 0, none⟩)], wM ga v1' v2' [1] [8]] w' := by rw [← hxa]; exact hst0
  clear hxa hst0
  go_upto_region 6 with (go_at_call 37; (with_reducible refine hst.mono ?_); rintro e za ⟨rfl, v1a, v2a, hL⟩)
  obtain ⟨Aa, hAa⟩ : ∃ A', upd A 1 3 7 = A' := ⟨_, rfl⟩
  have HAa := Lib.hid hAa
  have HAo : Hid (One Aa) := Lib.hid (by rw [← hAa]; exact one_upd HA.out)
  rw [hAa] at hL
  have L3 : Hid (Lo w1 lo hi b rb q8 Aa A [bx gp TP #[.pointer (some ⟨b, 0, none⟩), .pointer (some ⟨rb, 0, none⟩)], wM ga v1a v2a [1] [8]] za) := Lib.hid hL
  clear hL hst hAa L2 c2_0_0
  have L4 := Lib.hid (L3.out.new 62 #[.int .i64 2, .int .i64 1, .int .i64 3, .int .u64 xa, .int .u64 7, .bool true])
  obtain ⟨gx, hn⟩ : ∃ gx, za.heap.size = gx := ⟨_, rfl⟩
  rw [hn] at L4
  first | rw [hn] | skip
  clear hn
  obtain ⟨W4, hW⟩ : ∃ W', za.alloc (.cells #[.int .i64 2, .int .i64 1, .int .i64 3, .int .u64 xa, .int .u64 7, .bool true] 62) = W' := ⟨_, rfl⟩
  rw [hW] at L4
  first | rw [hW] | skip
  clear hW
  have L4 : Hid (Lo w1 lo hi b rb q8 Aa A [bx gp TP #[.pointer (some ⟨b, 0, none⟩), .pointer (some ⟨rb, 0, none⟩)], wM ga v1a v2a [1] [8], bx gx 62 #[.int .i64 2, .int .i64 1, .int .i64 3, .int .u64 xa, .int .u64 7, .bool true]] W4) := L4
  clear L3
  have HA0 := HA
  clear HA
  have HA := HAo
  clear HAo
  have hd := x_done (i := 1) L4.out rfl (D := false) (Lib.hid rfl)
  go_upto_region 7 with (go_at_call 34; (with_reducible refine hd.mono ?_); rintro e w9 ⟨rfl, rfl⟩)
  clear hd
  have c4_0_0 : W4.cell? ⟨gp, 0, none⟩ = some (.pointer (some ⟨b, 0, none⟩)) := L4.out.c 0 0 rfl rfl
  obtain ⟨xc, hxc⟩ : ∃ x, (Aa 1).getD 1 0 = x := ⟨_, rfl⟩
  have hst0 := x_go (i := 1) (xs := [3, 1]) (ys := [7, 8]) (k := 1) L4.out rfl ⟨by decide, by decide⟩ rfl (by decide) HA.out.1
  have hst : Calls Try.prog 37 #[.pointer (some ⟨ga, 0, none⟩), .pointer (some ⟨b, 0, none⟩)] W4 fun e w' => e = .returned (accV 2 1 1 xc 8 true) ∧ ∃ v1' v2', Lo w1 lo hi b rb q8 (upd Aa 1 1 8) A [bx gp TP #[.pointer (some ⟨b, 0, none⟩), .pointer (some ⟨rb, 0, none⟩)], wM ga v1' v2' [] [], bx gx 62 #[.int .i64 2, .int .i64 1, .int .i64 3, .int .u64 xa, .int .u64 7, .bool true]] w' := by rw [← hxc]; exact hst0
  clear hxc hst0
  go_upto_region 8 with (go_at_call 37; (with_reducible refine hst.mono ?_); rintro e zc ⟨rfl, v1c, v2c, hL⟩)
  obtain ⟨Ac, hAc⟩ : ∃ A', upd Aa 1 1 8 = A' := ⟨_, rfl⟩
  have HAc := Lib.hid hAc
  have HAo : Hid (One Ac) := Lib.hid (by rw [← hAc]; exact one_upd HA.out)
  rw [hAc] at hL
  have L5 : Hid (Lo w1 lo hi b rb q8 Ac A [bx gp TP #[.pointer (some ⟨b, 0, none⟩), .pointer (some ⟨rb, 0, none⟩)], wM ga v1c v2c [] [], bx gx 62 #[.int .i64 2, .int .i64 1, .int .i64 3, .int .u64 xa, .int .u64 7, .bool true]] zc) := Lib.hid hL
  clear hL hst hAc L4 c4_0_0
  have HV : Hid ((Ac 1)[3]? = some 7 ∧ (Ac 1)[1]? = some 8) := Lib.hid (by
    rw [← HAc.out, upd1, ← HAa.out, upd1]
    have h8 := HA0.out.1
    rw [List.getElem?_set_ne (by decide), List.getElem?_set_self (by omega), List.getElem?_set_self (by rw [List.length_set]; omega)]
    exact ⟨rfl, rfl⟩)
  obtain ⟨V, hV⟩ : ∃ V, Ac 1 = V := ⟨_, rfl⟩
  have him := lo_image8 L5.out hV (by rw [← hV]; exact HAo.out.1) HAo.out.2
  rw [hV] at HV
  clear hV
  have c5_0_0 : zc.cell? ⟨gp, 0, none⟩ = some (.pointer (some ⟨b, 0, none⟩)) := L5.out.c 0 0 rfl rfl
  go_upto_region 9 with (go_at_call 15; (with_reducible refine him.mono ?_); rintro e wi ⟨ic, it, is, gi, oi, ci, vo, vl, vh, vn, rfl, hci, hL⟩; have hfd := fld_data (.slice (some ⟨gi, oi, none⟩) 8 ci) vo vl vh vn ic it is)
  have L6 : Hid (Lo w1 lo hi b rb q8 Ac A [bx gp TP #[.pointer (some ⟨b, 0, none⟩), .pointer (some ⟨rb, 0, none⟩)], wM ga v1c v2c [] [], bx gx 62 #[.int .i64 2, .int .i64 1, .int .i64 3, .int .u64 xa, .int .u64 7, .bool true]] wi) := Lib.hid hL
  have i3 := hci 3 7 HV.out.1
  have i1 := hci 1 8 HV.out.2
  clear hL him hci HV hfd L5 c5_0_0
  have hd := x_done (i := 1) L6.out rfl (D := true) (Lib.hid rfl)
  have hl := x_left (i := 1) L6.out rfl (z := 0) (Lib.hid rfl)
  have c6_2_2 : wi.cell? ⟨gx, 2, none⟩ = some (.int .i64 3) := L6.out.c 2 2 rfl rfl
  have c6_2_4 : wi.cell? ⟨gx, 4, none⟩ = some (.int .u64 7) := L6.out.c 2 4 rfl rfl
  have HF := Lib.hid (below_trans2 HB1.out L6.out.old)
  clear L6
  go_wp2_with (first
    | (go_at_call 34; (with_reducible refine hd.mono ?_); rintro e y1 ⟨rfl, rfl⟩)
    | (go_at_call 36; (with_reducible refine hl.mono ?_); rintro e y2 ⟨rfl, rfl⟩))
  go_ret
  exact ⟨rfl, HF.out⟩
end Go.Proofs.Ytfondhajedkmbaa.WrL
