/-
  Contracts of the reference's Sorted and of strongtxkit.TwinInts.
-/
import Derived.Test.YtphnadchdhblpaaGreatSrtA
import Derived.BigQuiet
import Derived.Deep.QuietTactic
namespace Go.Proofs.YtphnadchdhblpaaGreat.SrtB
open Go.ChangeShapes Go.WideShapes Go.ChangeAt Go.RowKit
open PlainT BlkW LayS LayH CelS CelM CelP CelV CelN LabD RsA ObjA LkP SrtA
set_option linter.unusedVariables false
set_option maxHeartbeats 2000000
set_option maxRecDepth 100000

theorem rds_at {w w' : World} {p : Option Addr} {n cap : Nat} {xs : List Int} (h : RdS .i64 w (.slice p n cap) xs) (hb : Below w.heap.size w w') {i : Nat} {x : Int} (hx : xs[i]? = some x) : ∃ g o, p = some ⟨g, o, none⟩ ∧ w'.cell? ⟨g, o + i, none⟩ = some (.int .i64 x) := by
  obtain ⟨p2, c2, e, _, _, hc⟩ := rds_below h hb
  injection e with e1 _ _
  subst e1
  exact hc i x hx
theorem own_seti {w : World} {B g n cap : Nat} {xs : List Int} (h : OwnI w B (.slice (some ⟨g, 0, none⟩) n cap) xs) (i : Nat) (x : Int) : OwnI (w.setCell ⟨g, i, none⟩ (.int .i64 x)) B (.slice (some ⟨g, 0, none⟩) n cap) (xs.set i x) := by
  obtain ⟨A, c, hv, _⟩ := own_slice h
  injection hv with _ hn _
  subst hn
  have := (World.ownsRow.stored h i (.int .i64 x)).1
  unfold OwnI
  rw [List.length_set]
  have hu : isV (xs.set i x) = (isV xs).set i (.int .i64 x) := by unfold isV; rw [List.map_set]
  rw [hu]
  exact this
theorem own_ptri {w : World} {B : Nat} {A : Option Addr} {n cap : Nat} {xs : List Int} (h : OwnI w B (.slice A n cap) xs) (hn : 0 < xs.length) : ∃ g, A = some ⟨g, 0, none⟩ ∧ B ≤ g ∧ ∀ j x, xs[j]? = some x → w.cell? ⟨g, j, none⟩ = some (.int .i64 x) ∧ w.frozen? ⟨g, j, none⟩ = false := by
  obtain ⟨g, cap', cur, e, hB, hm, _, hc⟩ := own_cells h hn
  injection e with e1 _ _
  refine ⟨g, e1, hB, fun j x hj => ?_⟩
  have hl := (List.getElem?_eq_some_iff.1 hj).1
  refine ⟨?_, ?_⟩
  · rw [hc j (by omega)]
    unfold isV
    rw [List.getElem?_map, hj]
    rfl
  · exact Mem.frozen hm j
/-- TwinInts. -/
theorem shift_at {ys : List Int} {j : Nat} {z y : Int} (hj : ys[j]? = some y) : (ys.take (j + 1) ++ z :: ys.drop (j + 1)).set (j + 1) y = ys.take j ++ y :: ys.drop j ∧ (ys.take (j + 1) ++ z :: ys.drop (j + 1))[j]? = some y := by
  have hl := (List.getElem?_eq_some_iff.1 hj).1
  have he : ys[j] = y := (List.getElem?_eq_some_iff.1 hj).2
  have hlen : (ys.take (j + 1)).length = j + 1 := by rw [List.length_take]; omega
  refine ⟨?_, ?_⟩
  · rw [List.set_append_right _ _ (by omega), hlen, Nat.sub_self, List.set_cons_zero, List.drop_eq_getElem_cons hl, he, List.take_add_one, hj]
    simp
  · rw [List.getElem?_append_left (by omega), List.getElem?_take_of_lt (by omega), hj]
/-- The reference's Sorted. -/
theorem r_sorted (w : World) (p : Option Addr) (n cap : Nat) (xs : List Int) (hs : RdS .i64 w (.slice p n cap) xs) (hn : xs.length = n) (hl : n ≤ 1000) : Calls Tryz.prog 36 #[.slice p n cap] w fun e w' => ∃ A c, e = .returned (.slice A (srt xs).length c) ∧ w'.ownsRow w.heap.size TI 1 (.slice A (srt xs).length c) (srt xs).length ((srt xs).map (Value.int .i64)) ∧ Below w.heap.size w w' := by
  have HS := Lib.hid hs
  have HN := Lib.hid hn
  clear hs hn
  go_enter Tryz.func36, Tryz.ntmps36
  go_wp2_with fail
  go_loopw [3, 4] (fun sv iv wr => ∃ (i m : Nat) (Ao : Option Addr) (co : Nat) (ys : List Int), i ≤ n ∧ iv = .int .i64 i ∧ sv = .slice Ao m co ∧ Hid (ys.length = m) ∧ Hid (srt (xs.take i) = ys) ∧ OwnI wr w.heap.size (.slice Ao m co) ys ∧ Below w.heap.size w wr) (fun _ iv _ => n - (intOf iv).toNat)
  case atStart => exact ⟨0, 0, none, 0, [], by omega, rfl, rfl, Lib.hid rfl, Lib.hid rfl, World.ownsRow_nil _ _ _ _, Below.refl _ _⟩
  case round =>
    obtain ⟨i, m, Ao, co, ys, hi, rfl, rfl, HM, HY, hown, hbw⟩ := hrel
    have HO := Lib.hid hown
    have HB := Lib.hid hbw
    clear hown hbw
    by_cases hlt : i < n
    · have hltI : (i : Int) < n := by omega
      obtain ⟨x, hx⟩ : ∃ x, xs[i]? = some x := ⟨_, List.getElem?_eq_getElem (by rw [HN.out]; exact hlt)⟩
      have hcx : ∀ w', Below w.heap.size w w' → ∃ g o, p = some ⟨g, o, none⟩ ∧ w'.cell? ⟨g, o + i, none⟩ = some (.int .i64 x) := fun w' hb => rds_at HS.out hb hx
      obtain ⟨g, o, rfl, _⟩ := hcx wr HB.out
      have hcx : ∀ w', Below w.heap.size w w' → w'.cell? ⟨g, o + i, none⟩ = some (.int .i64 x) := fun w' hb => by
        obtain ⟨g', o', e, h⟩ := hcx w' hb
        injection e with e
        injection e with e1 e2
        rw [e1, e2]
        exact h
      have HX := Lib.hid hx
      have HCX := Lib.hid hcx
      have hins : srt (xs.take (i + 1)) = insS x ys := by rw [srt_take hx, HY.out]
      have HINS := Lib.hid hins
      have hlow := low_le x ys
      have hm1 : m ≤ 1000 := by
        have h1 := srt_len (xs.take i)
        have h2 := HM.out
        rw [HY.out, List.length_take, HN.out] at h1
        omega
      have HLW := Lib.hid hlow
      clear hx hcx hins hlow
      obtain ⟨W1, hW1⟩ : ∃ W1, wr = W1 := ⟨_, rfl⟩
      rw [hW1] at HO HB
      first | rw [hW1] | skip
      clear hW1
      go_wp2_with fail
      go_loopw [5] (fun kv w2 => ∃ k : Nat, Hid (k ≤ low x ys) ∧ k ≤ m ∧ kv = .int .i64 k ∧ OwnI w2 w.heap.size (.slice Ao m co) ys ∧ Below w.heap.size w w2) (fun kv _ => m - (intOf kv).toNat)
      case atStart => exact ⟨0, Lib.hid (Nat.zero_le _), by omega, rfl, HO.out, HB.out⟩
      case round =>
        obtain ⟨k, HK, hkm, rfl, hown2, hb2⟩ := hrel
        have HO2 := Lib.hid hown2
        have HB2 := Lib.hid hb2
        clear hown2 hb2 HO HB
        have cx := HCX.out wr HB2.out
        by_cases hk : k < m
        · have hkI : (k : Int) < m := by omega
          obtain ⟨y, hy⟩ : ∃ y, ys[k]? = some y := ⟨_, List.getElem?_eq_getElem (by rw [HM.out]; exact hk)⟩
          obtain ⟨g2, hA, hg2, hc2⟩ := own_ptri HO2.out (by rw [HM.out]; omega)
          have HCC := Lib.hid hc2
          have cy := (hc2 k y hy).1
          clear hc2
          subst hA
          have HYK := Lib.hid hy
          by_cases hkl : k < low x ys
          · have hyx : y < x := low_lt x ys k y hkl hy
            have hdx : decide (y < x) = true := decide_eq_true hyx
            clear hy
            go_upto_region 6 with (fail)
            go_quiet (fail)
            obtain ⟨W3, hW3⟩ : ∃ W3, wr.drewN nq = W3 := ⟨_, rfl⟩
            have HO3 : Hid (OwnI W3 w.heap.size (.slice (some ⟨g2, 0, none⟩) m co) ys) := Lib.hid (by rw [← hW3]; exact HO2.out)
            have HB3 : Hid (Below w.heap.size w W3) := Lib.hid (by rw [← hW3]; exact below_drewN HB2.out _)
            rw [hW3]
            clear hW3 HO2 HB2
            go_wp2_with fail
            go_roundw
            case rel => exact ⟨k + 1, Lib.hid (by omega), by omega, by go_num, HO3.out, HB3.out⟩
            case measure => simp [intOf]; omega
          · have hkle : k = low x ys := by have := HK.out; omega
            have HKE := Lib.hid hkle
            have hyx : ¬ y < x := low_ge x ys y (by rw [← hkle]; exact hy)
            have hdx : decide (y < x) = false := decide_eq_false hyx
            clear hy hkle hkl
            go_upto_region 6 with (fail)
            go_quiet (fail)
            obtain ⟨W3, hW3⟩ : ∃ W3, wr.drewN nq = W3 := ⟨_, rfl⟩
            have cx3 : W3.cell? ⟨g, o + i, none⟩ = some (.int .i64 x) := by rw [← hW3]; exact cx
            have cy3 : W3.cell? ⟨g2, k, none⟩ = some (.int .i64 y) := by rw [← hW3]; exact cy
            have HO3 : Hid (OwnI W3 w.heap.size (.slice (some ⟨g2, 0, none⟩) m co) ys) := Lib.hid (by rw [← hW3]; exact HO2.out)
            have HB3 : Hid (Below w.heap.size w W3) := Lib.hid (by rw [← hW3]; exact below_drewN HB2.out _)
            rw [hW3]
            clear hW3 HO2 HB2 cx cy nq
            by_cases hxy : y = x
            · have hbe : (y == x) = true := by simpa using hxy
              have HIN : Hid (srt (xs.take (i + 1)) = ys) := Lib.hid (by rw [HINS.out]; unfold insS; rw [if_pos (by rw [← HKE.out, HYK.out, hxy])])
              clear hxy
              go_upto_region 8 with (fail)
              go_quiet (fail)
              go_wp2_with fail
              go_roundw
              case rel => exact ⟨i + 1, m, _, _, ys, by omega, by go_num, rfl, HM, HIN, own_drewN HO3.out _, below_drewN HB3.out _⟩
              case measure => simp [intOf]; omega
            · have hbe : (y == x) = false := by simpa using hxy
              have HNF : Hid (¬ ys[low x ys]? = some x) := Lib.hid (by rw [← HKE.out, HYK.out]; intro e; injection e with e; exact hxy e)
              clear hxy
              go_upto_region 8 with (fail)
              go_quiet (fail)
              obtain ⟨W4, hW4⟩ : ∃ W4, W3.drewN nq = W4 := ⟨_, rfl⟩
              have HO4 : Hid (OwnI W4 w.heap.size (.slice (some ⟨g2, 0, none⟩) m co) ys) := Lib.hid (by rw [← hW4]; exact own_drewN HO3.out _)
              have HB4 : Hid (Below w.heap.size w W4) := Lib.hid (by rw [← hW4]; exact below_drewN HB3.out _)
              rw [hW4]
              clear hW4 HO3 HB3 cx3 cy3 nq
              go_upto_region 9 with (fail)
              obtain ⟨A2, c2', w3, hrun, hown3, hbel3, _, _⟩ := push_i HB4.out.size HO4.out (by rw [HM.out]; omega) 0
              rw [HM.out] at hrun hown3
              have HO5 := Lib.hid hown3
              have HB5 := Lib.hid (HB4.out.trans hbel3)
              have hwm : IntKind.i64.wrap ((m : Int) + 1 - 1) = m := (IntWalk.i64_in _ (by omega)).trans (by omega)
              clear hown3 hbel3
              go_upto_region 10 with (at_builtin; refine wpList_append_run rfl _ _ _ rfl hrun (by rfl) (by rfl) ?_)
              have hln5 : (ys ++ [0]).length = m + 1 := by simp [HM.out]
              obtain ⟨g5, hA2, hg5, _⟩ := own_ptri HO5.out (by omega)
              subst hA2
              clear hrun hln5
              go_wp2_with fail
              go_loopw [6] (fun jv w5 => ∃ (j : Nat) (z : Int), k ≤ j ∧ j ≤ m ∧ jv = .int .i64 j ∧ OwnI w5 w.heap.size (.slice (some ⟨g5, 0, none⟩) (m + 1) c2') (ys.take j ++ z :: ys.drop j) ∧ Below w.heap.size w w5) (fun jv _ => (intOf jv).toNat)
              case atStart =>
                refine ⟨m, 0, hkm, Nat.le_refl _, rfl, ?_, HB5.out⟩
                have := HO5.out
                rw [← HM.out] at this ⊢
                rw [List.take_length, List.drop_length]
                exact this
              case round =>
                obtain ⟨j, z, hkj, hjm, rfl, hown6, hb6⟩ := hrel
                have HO6 := Lib.hid hown6
                have HB6 := Lib.hid hb6
                clear hown6 hb6 HO5 HB5
                have hl6 : (ys.take j ++ z :: ys.drop j).length = m + 1 := by have := HM.out; simp; omega
                by_cases hjk : k < j
                · have hjkI : (k : Int) < j := by omega
                  obtain ⟨j1, rfl⟩ : ∃ j1, j = j1 + 1 := ⟨j - 1, by omega⟩
                  obtain ⟨y1, hy1⟩ : ∃ y1, ys[j1]? = some y1 := ⟨_, List.getElem?_eq_getElem (by rw [HM.out]; omega)⟩
                  obtain ⟨hset, hat⟩ := shift_at (z := z) hy1
                  obtain ⟨_, e6, _, hcell6⟩ := own_ptri HO6.out (by omega)
                  injection e6 with e6
                  injection e6 with e6
                  subst e6
                  have d1 := (hcell6 j1 y1 hat).1
                  obtain ⟨z1, hz1⟩ : ∃ z1, (ys.take (j1 + 1) ++ z :: ys.drop (j1 + 1))[j1 + 1]? = some z1 := ⟨_, List.getElem?_eq_getElem (by rw [hl6]; omega)⟩
                  have d2 := hcell6 (j1 + 1) z1 hz1
                  have d3 := d2.2
                  have d2 := d2.1
                  have hO7 := own_seti HO6.out (j1 + 1) y1
                  rw [hset] at hO7
                  have HO7 := Lib.hid hO7
                  have HB7 := Lib.hid (HB6.out.setCell (show w.heap.size ≤ (⟨g5, j1 + 1, none⟩ : Addr).block from hg5) (.int .i64 y1))
                  have hj0 : IntKind.i64.wrap (((j1 + 1 : Nat) : Int) - 1) = j1 := (IntWalk.i64_in _ (by omega)).trans (by omega)
                  have hji : (j1 : Int) < ((m + 1 : Nat) : Int) := by omega
                  have hji2 : ((j1 + 1 : Nat) : Int) < ((m + 1 : Nat) : Int) := by omega
                  have hk2 : (k : Int) < ((j1 + 1 : Nat) : Int) := by omega
                  clear hO7 hset hat hcell6 hz1 hy1 hl6 HO6 HB6 hjkI
                  go_wp2_with fail
                  go_roundw
                  case rel => exact ⟨j1, y1, by omega, by omega, by go_num, HO7.out, HB7.out⟩
                  case measure => simp [intOf]
                · obtain rfl : j = k := by omega
                  obtain ⟨z1, hz1⟩ : ∃ z1, (ys.take j ++ z :: ys.drop j)[j]? = some z1 := ⟨_, List.getElem?_eq_getElem (by rw [hl6]; omega)⟩
                  obtain ⟨_, e6, _, hcell6⟩ := own_ptri HO6.out (by omega)
                  injection e6 with e6
                  injection e6 with e6
                  subst e6
                  have d2 := (hcell6 j z1 hz1).1
                  have d3 := (hcell6 j z1 hz1).2
                  have d4 := HCX.out _ HB6.out
                  have hO7 := own_seti HO6.out j x
                  have hset : (ys.take j ++ z :: ys.drop j).set j x = insS x ys := by
                    have hlj : (ys.take j).length = j := by rw [List.length_take, HM.out]; omega
                    rw [List.set_append_right _ _ (by omega), hlj, Nat.sub_self, List.set_cons_zero]
                    unfold insS
                    rw [if_neg HNF.out, ← HKE.out]
                  rw [hset, ← HINS.out] at hO7
                  have HLN : Hid ((srt (xs.take (i + 1))).length = m + 1) := Lib.hid (by rw [HINS.out, ← hset, List.length_set]; exact hl6)
                  have HO7 := Lib.hid hO7
                  have HB7 := Lib.hid (HB6.out.setCell (show w.heap.size ≤ (⟨g5, j, none⟩ : Addr).block from hg5) (.int .i64 x))
                  have hji : (j : Int) < ((m + 1 : Nat) : Int) := by omega
                  clear hO7 hset hcell6 hz1 hl6 HO6 HB6 hjk
                  go_wp2_with fail
                  go_roundw
                  case rel => exact ⟨i + 1, m + 1, _, _, _, by omega, by go_num, rfl, HLN, Lib.hid rfl, HO7.out, HB7.out⟩
                  case measure => simp [intOf]; omega
        · have hge : (m : Int) ≤ k := by omega
          have hdk : decide (k < m) = false := decide_eq_false (by omega)
          have hkle : k = low x ys := by have := HK.out; have := HLW.out; have := HM.out; omega
          have HKE := Lib.hid hkle
          have HNF : Hid (¬ ys[low x ys]? = some x) := Lib.hid (by rw [← hkle, List.getElem?_eq_none (by rw [HM.out]; omega)]; intro e; cases e)
          clear hkle hk
          go_upto_region 6 with (fail)
          go_quiet (fail)
          obtain ⟨W3, hW3⟩ : ∃ W3, wr.drewN nq = W3 := ⟨_, rfl⟩
          have HO3 : Hid (OwnI W3 w.heap.size (.slice Ao m co) ys) := Lib.hid (by rw [← hW3]; exact HO2.out)
          have HB3 : Hid (Below w.heap.size w W3) := Lib.hid (by rw [← hW3]; exact below_drewN HB2.out _)
          rw [hW3]
          clear hW3 HO2 HB2 cx nq
          go_upto_region 8 with (fail)
          go_quiet (fail)
          obtain ⟨W4, hW4⟩ : ∃ W4, W3.drewN nq = W4 := ⟨_, rfl⟩
          have HO4 : Hid (OwnI W4 w.heap.size (.slice Ao m co) ys) := Lib.hid (by rw [← hW4]; exact own_drewN HO3.out _)
          have HB4 : Hid (Below w.heap.size w W4) := Lib.hid (by rw [← hW4]; exact below_drewN HB3.out _)
          rw [hW4]
          clear hW4 HO3 HB3 nq
          go_upto_region 9 with (fail)
          obtain ⟨A2, c2', w3, hrun, hown3, hbel3, _, _⟩ := push_i HB4.out.size HO4.out (by rw [HM.out]; omega) 0
          rw [HM.out] at hrun hown3
          have HO5 := Lib.hid hown3
          have HB5 := Lib.hid (HB4.out.trans hbel3)
          have hwm : IntKind.i64.wrap ((m : Int) + 1 - 1) = m := (IntWalk.i64_in _ (by omega)).trans (by omega)
          clear hown3 hbel3
          go_upto_region 10 with (at_builtin; refine wpList_append_run rfl _ _ _ rfl hrun (by rfl) (by rfl) ?_)
          have hln5 : (ys ++ [0]).length = m + 1 := by simp [HM.out]
          obtain ⟨g5, hA2, hg5, _⟩ := own_ptri HO5.out (by omega)
          subst hA2
          clear hrun hln5
          go_wp2_with fail
          go_loopw [6] (fun jv w5 => ∃ (j : Nat) (z : Int), k ≤ j ∧ j ≤ m ∧ jv = .int .i64 j ∧ OwnI w5 w.heap.size (.slice (some ⟨g5, 0, none⟩) (m + 1) c2') (ys.take j ++ z :: ys.drop j) ∧ Below w.heap.size w w5) (fun jv _ => (intOf jv).toNat)
          case atStart =>
            refine ⟨m, 0, hkm, Nat.le_refl _, rfl, ?_, HB5.out⟩
            have := HO5.out
            rw [← HM.out] at this ⊢
            rw [List.take_length, List.drop_length]
            exact this
          case round =>
            obtain ⟨j, z, hkj, hjm, rfl, hown6, hb6⟩ := hrel
            have HO6 := Lib.hid hown6
            have HB6 := Lib.hid hb6
            clear hown6 hb6 HO5 HB5
            have hl6 : (ys.take j ++ z :: ys.drop j).length = m + 1 := by have := HM.out; simp; omega
            by_cases hjk : k < j
            · exact absurd hjk (by omega)
            · obtain rfl : j = k := by omega
              obtain ⟨z1, hz1⟩ : ∃ z1, (ys.take j ++ z :: ys.drop j)[j]? = some z1 := ⟨_, List.getElem?_eq_getElem (by rw [hl6]; omega)⟩
              obtain ⟨_, e6, _, hcell6⟩ := own_ptri HO6.out (by omega)
              injection e6 with e6
              injection e6 with e6
              subst e6
              have d2 := (hcell6 j z1 hz1).1
              have d3 := (hcell6 j z1 hz1).2
              have d4 := HCX.out _ HB6.out
              have hO7 := own_seti HO6.out j x
              have hset : (ys.take j ++ z :: ys.drop j).set j x = insS x ys := by
                have hlj : (ys.take j).length = j := by rw [List.length_take, HM.out]; omega
                rw [List.set_append_right _ _ (by omega), hlj, Nat.sub_self, List.set_cons_zero]
                unfold insS
                rw [if_neg HNF.out, ← HKE.out]
              rw [hset, ← HINS.out] at hO7
              have HLN : Hid ((srt (xs.take (i + 1))).length = m + 1) := Lib.hid (by rw [HINS.out, ← hset, List.length_set]; exact hl6)
              have HO7 := Lib.hid hO7
              have HB7 := Lib.hid (HB6.out.setCell (show w.heap.size ≤ (⟨g5, j, none⟩ : Addr).block from hg5) (.int .i64 x))
              have hji : (j : Int) < ((m + 1 : Nat) : Int) := by omega
              clear hO7 hset hcell6 hz1 hl6 HO6 HB6 hjk
              go_wp2_with fail
              go_roundw
              case rel => exact ⟨i + 1, m + 1, _, _, _, by omega, by go_num, rfl, HLN, Lib.hid rfl, HO7.out, HB7.out⟩
              case measure => simp [intOf]; omega
    · obtain rfl : i = n := by omega
      have e : xs.take i = xs := by rw [← HN.out, List.take_length]
      have hys : srt xs = ys := by rw [← HY.out, e]
      have HF := Lib.hid hys
      have HO2 := HO
      have HB2 := HB
      clear HS HB hlt e hi HY HO hys
      go_wp2_with fail
      go_ret
      rw [HF.out, HM.out]
      refine ⟨Ao, co, rfl, ?_, HB2.out⟩
      have := HO2.out
      unfold OwnI at this
      rw [HM.out] at this
      exact this
end Go.Proofs.YtphnadchdhblpaaGreat.SrtB
