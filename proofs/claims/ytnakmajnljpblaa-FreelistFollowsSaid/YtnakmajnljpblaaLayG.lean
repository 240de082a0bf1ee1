/-
  Contracts of package layout and of its reference: Find, Orec.
-/
import Derived.Test.YtnakmajnljpblaaLayF
import Derived.Deep.RegionHeld3
namespace Go.Proofs.Ytnakmajnljpblaa.LayG
open Go.ChangeShapes Go.WideShapes Go.ChangeAt Go.RowKit
open PlainT BlkW LayS LayA LayB LayC LayD LayE LayF
set_option linter.unusedVariables false
set_option maxHeartbeats 1000000

theorem find_step {q : Cfg} {x : Int} {n k : Nat} {v : Int} (h : findGo q x (n - k) k = v) (hk : k < n) : (if fstV q k = x then (k : Int) else findGo q x (n - (k + 1)) ((k : Int) + 1)) = v := by
  rw [show n - k = (n - (k + 1)) + 1 by omega] at h
  unfold findGo at h
  exact h
theorem find_end {q : Cfg} {x : Int} {n k : Nat} {v : Int} (h : findGo q x (n - k) k = v) (hk : n ≤ k) : v = -1 := by
  rw [show n - k = 0 by omega] at h
  unfold findGo at h
  exact h.symm
theorem ret_int {a b : Int} (h : a = b) : Ending.returned (.int .i64 a) = .returned (.int .i64 b) := by rw [h]
set_option maxRecDepth 100000 in
set_option maxHeartbeats 4000000 in
theorem a_find (q : Cfg) (x : Int) (hx0 : 0 ≤ x) (hx1 : x ≤ 18446744073709551615) (w : World) : Calls Try.prog 86 #[cfgV q, .int .u64 x] w fun e w' => e = .returned (.int .i64 (findV q x)) ∧ Below w.heap.size w w' := by
  have HM := Lib.hid (Mem.new w TC (cells q))
  have HB := Lib.hid (below_new w (.cells (cells q) TC))
  obtain ⟨v, hv⟩ : ∃ v, findV q x = v := ⟨_, rfl⟩
  rw [hv]
  unfold findV at hv
  have hbl := a_blocks q
  obtain ⟨n0, n1⟩ := blk_in q
  obtain ⟨n, hn⟩ : ∃ n : Nat, blkV q = n := ⟨(blkV q).toNat, by omega⟩
  rw [hn] at hbl n0 n1 hv
  have HN := Lib.hid hn
  have HV := Lib.hid (show findGo q x (n - 0) ((0 : Nat) : Int) = v from hv)
  clear hn hv
  go_enter Try.func86, Try.ntmps86
  go_wp2_with (go_at_call 82; (with_reducible refine (hbl _).mono ?_); rintro e w2 ⟨rfl, hb2⟩; have HB2 := Lib.hid (HB.out.trans (hb2.mono (by rw [size_new]; omega))); have HM2 := Lib.hid (HM.out.below hb2 HM.out.lt); clear hb2; obtain ⟨d0, d1, d2, d3, d4, d5, d6, d7, d8, d9, d10, d11, d12⟩ := box_cells HM2.out)
  go_loopw [8] (fun kv wr => ∃ k : Nat, k ≤ n ∧ kv = .int .i64 k ∧ Hid (findGo q x (n - k) k = v) ∧ Mem wr w.heap.size TC (cells q) ∧ Below w.heap.size w wr) (fun kv _ => n - (intOf kv).toNat)
  case atStart => exact ⟨0, by omega, rfl, HV, HM2.out, HB2.out⟩
  case round =>
    obtain ⟨k, hk, rfl, hgo, hm, hb⟩ := hrel
    have HM0 := Lib.hid hm
    have HB0 := Lib.hid hb
    clear hm hb HV d0 d1 d2 d3 d4 d5 d6 d7 d8 d9 d10 d11 d12
    obtain ⟨d0, d1, d2, d3, d4, d5, d6, d7, d8, d9, d10, d11, d12⟩ := box_cells HM0.out
    by_cases hlt : k < n
    · have hfc := a_first q k
      have hfv := fst_in (blk_valid (q := q) (b := (k : Int)) (by omega) (by have := HN.out; omega)).1 (i := (k : Int)) (by omega) (by have := (blk_valid (q := q) (b := (k : Int)) (by omega) (by have := HN.out; omega)).2; omega)
      have hfe := fst_of (q := q) (i := (k : Int)) (by omega) (by have := HN.out; omega)
      rw [← hfe] at hfv
      obtain ⟨_, _, f1, f2, _⟩ := hfv
      have HS := Lib.hid (find_step hgo.out hlt)
      have f3 : fstV q k ≤ 64 := (fstV_in q k).2
      obtain ⟨f, hf⟩ : ∃ f, fstV q k = f := ⟨_, rfl⟩
      rw [hf] at hfc HS f2 f3
      clear hfe f1 hf hgo
      rename_i u1 u2 u3
      clear u1 u2 u3
      by_cases he : f = x
      · obtain rfl := he
        have hvk : (k : Int) = v := by
          have := HS.out
          rwa [if_pos rfl] at this
        have HVK := Lib.hid hvk
        clear hvk HS
        go_wp2_with (go_at_call 84; (with_reducible refine (hfc _).mono ?_); rintro e w3 ⟨rfl, hb3⟩; have HB3 := Lib.hid (HB0.out.trans (hb3.mono HB0.out.size)); have HM3 := Lib.hid (HM0.out.below hb3 HM0.out.lt); clear hb3; clear d0 d1 d2 d3 d4 d5 d6 d7 d8 d9 d10 d11 d12; obtain ⟨d0, d1, d2, d3, d4, d5, d6, d7, d8, d9, d10, d11, d12⟩ := box_cells HM3.out)
        go_ret
        exact ⟨ret_int HVK.out, HB3.out⟩
      · have HG := Lib.hid (show findGo q x (n - (k + 1)) ((k : Int) + 1) = v by
          have := HS.out
          rwa [if_neg he] at this)
        have he2 : (f == x) = false := beq_eq_false_iff_ne.2 he
        clear HS he
        go_wp2_with (go_at_call 84; (with_reducible refine (hfc _).mono ?_); rintro e w3 ⟨rfl, hb3⟩; have HB3 := Lib.hid (HB0.out.trans (hb3.mono HB0.out.size)); have HM3 := Lib.hid (HM0.out.below hb3 HM0.out.lt); clear hb3; clear d0 d1 d2 d3 d4 d5 d6 d7 d8 d9 d10 d11 d12; obtain ⟨d0, d1, d2, d3, d4, d5, d6, d7, d8, d9, d10, d11, d12⟩ := box_cells HM3.out)
        go_roundw
        case rel => exact ⟨k + 1, by omega, by go_num, HG, HM3.out, HB3.out⟩
        case measure => simp [intOf]; omega
    · have HVE := Lib.hid (find_end hgo.out (by omega))
      clear hgo
      go_wp2
      go_ret
      exact ⟨ret_int HVE.out.symm, HB0.out⟩
set_option maxRecDepth 100000 in
set_option maxHeartbeats 4000000 in
theorem r_find (q : Cfg) (x : Int) (hx0 : 0 ≤ x) (hx1 : x ≤ 18446744073709551615) (w : World) : Calls Try.prog 87 #[cfgV q, .int .u64 x] w fun e w' => e = .returned (.int .i64 (findV q x)) ∧ Below w.heap.size w w' := by
  have HM := Lib.hid (Mem.new w TC (cells q))
  have HB := Lib.hid (below_new w (.cells (cells q) TC))
  obtain ⟨v, hv⟩ : ∃ v, findV q x = v := ⟨_, rfl⟩
  rw [hv]
  unfold findV at hv
  have hbl := r_blocks q
  obtain ⟨n0, n1⟩ := blk_in q
  obtain ⟨n, hn⟩ : ∃ n : Nat, blkV q = n := ⟨(blkV q).toNat, by omega⟩
  rw [hn] at hbl n0 n1 hv
  have HN := Lib.hid hn
  have HV := Lib.hid (show findGo q x (n - 0) ((0 : Nat) : Int) = v from hv)
  clear hn hv
  go_enter Try.func87, Try.ntmps87
  go_wp2
  go_loopw [5] (fun kv wr => ∃ k : Nat, k ≤ n ∧ kv = .int .i64 k ∧ Hid (findGo q x (n - k) k = v) ∧ Mem wr w.heap.size TC (cells q) ∧ Below w.heap.size w wr) (fun kv _ => n - (intOf kv).toNat)
  case atStart => exact ⟨0, by omega, rfl, HV, HM.out, HB.out⟩
  case round =>
    obtain ⟨k, hk, rfl, hgo, hm, hb⟩ := hrel
    have HM0 := Lib.hid hm
    have HB0 := Lib.hid hb
    clear hm hb HV
    obtain ⟨d0, d1, d2, d3, d4, d5, d6, d7, d8, d9, d10, d11, d12⟩ := box_cells HM0.out
    by_cases hlt : k < n
    · have hfc := r_first q k
      have hfv := fst_in (blk_valid (q := q) (b := (k : Int)) (by omega) (by have := HN.out; omega)).1 (i := (k : Int)) (by omega) (by have := (blk_valid (q := q) (b := (k : Int)) (by omega) (by have := HN.out; omega)).2; omega)
      have hfe := fst_of (q := q) (i := (k : Int)) (by omega) (by have := HN.out; omega)
      rw [← hfe] at hfv
      obtain ⟨_, _, f1, f2, _⟩ := hfv
      have HS := Lib.hid (find_step hgo.out hlt)
      have f3 : fstV q k ≤ 64 := (fstV_in q k).2
      obtain ⟨f, hf⟩ : ∃ f, fstV q k = f := ⟨_, rfl⟩
      rw [hf] at hfc HS f2 f3
      clear hfe f1 hf hgo
      rename_i u1 u2 u3
      clear u1 u2 u3
      by_cases he : f = x
      · obtain rfl := he
        have hvk : (k : Int) = v := by
          have := HS.out
          rwa [if_pos rfl] at this
        have HVK := Lib.hid hvk
        clear hvk HS
        go_wp2_with (first | (go_at_call 65; (with_reducible refine (hbl _).mono ?_); rintro e w4 ⟨rfl, hb4⟩; have HB4 := Lib.hid (HB0.out.trans (hb4.mono HB0.out.size)); have HM4 := Lib.hid (HM0.out.below hb4 HM0.out.lt); clear hb4; clear d0 d1 d2 d3 d4 d5 d6 d7 d8 d9 d10 d11 d12; obtain ⟨d0, d1, d2, d3, d4, d5, d6, d7, d8, d9, d10, d11, d12⟩ := box_cells HM4.out) | (go_at_call 85; (with_reducible refine (hfc _).mono ?_); rintro e w3 ⟨rfl, hb3⟩; have HB3 := Lib.hid (HB4.out.trans (hb3.mono HB4.out.size)); have HM3 := Lib.hid (HM4.out.below hb3 HM4.out.lt); clear hb3; clear d0 d1 d2 d3 d4 d5 d6 d7 d8 d9 d10 d11 d12; obtain ⟨d0, d1, d2, d3, d4, d5, d6, d7, d8, d9, d10, d11, d12⟩ := box_cells HM3.out))
        go_ret
        exact ⟨ret_int HVK.out, HB3.out⟩
      · have HG := Lib.hid (show findGo q x (n - (k + 1)) ((k : Int) + 1) = v by
          have := HS.out
          rwa [if_neg he] at this)
        have he2 : (f == x) = false := beq_eq_false_iff_ne.2 he
        clear HS he
        go_wp2_with (first | (go_at_call 65; (with_reducible refine (hbl _).mono ?_); rintro e w4 ⟨rfl, hb4⟩; have HB4 := Lib.hid (HB0.out.trans (hb4.mono HB0.out.size)); have HM4 := Lib.hid (HM0.out.below hb4 HM0.out.lt); clear hb4; clear d0 d1 d2 d3 d4 d5 d6 d7 d8 d9 d10 d11 d12; obtain ⟨d0, d1, d2, d3, d4, d5, d6, d7, d8, d9, d10, d11, d12⟩ := box_cells HM4.out) | (go_at_call 85; (with_reducible refine (hfc _).mono ?_); rintro e w3 ⟨rfl, hb3⟩; have HB3 := Lib.hid (HB4.out.trans (hb3.mono HB4.out.size)); have HM3 := Lib.hid (HM4.out.below hb3 HM4.out.lt); clear hb3; clear d0 d1 d2 d3 d4 d5 d6 d7 d8 d9 d10 d11 d12; obtain ⟨d0, d1, d2, d3, d4, d5, d6, d7, d8, d9, d10, d11, d12⟩ := box_cells HM3.out))
        go_roundw
        case rel => exact ⟨k + 1, by omega, by go_num, HG, HM3.out, HB3.out⟩
        case measure => simp [intOf]; omega
    · have HVE := Lib.hid (find_end hgo.out (by omega))
      clear hgo
      go_wp2_with (first | (go_at_call 65; (with_reducible refine (hbl _).mono ?_); rintro e w4 ⟨rfl, hb4⟩; have HB4 := Lib.hid (HB0.out.trans (hb4.mono HB0.out.size)); have HM4 := Lib.hid (HM0.out.below hb4 HM0.out.lt); clear hb4; clear d0 d1 d2 d3 d4 d5 d6 d7 d8 d9 d10 d11 d12; obtain ⟨d0, d1, d2, d3, d4, d5, d6, d7, d8, d9, d10, d11, d12⟩ := box_cells HM4.out) | (go_at_call 85; (with_reducible refine (hfc _).mono ?_); rintro e w3 ⟨rfl, hb3⟩; have HB3 := Lib.hid (HB4.out.trans (hb3.mono HB4.out.size)); have HM3 := Lib.hid (HM4.out.below hb3 HM4.out.lt); clear hb3; clear d0 d1 d2 d3 d4 d5 d6 d7 d8 d9 d10 d11 d12; obtain ⟨d0, d1, d2, d3, d4, d5, d6, d7, d8, d9, d10, d11, d12⟩ := box_cells HM3.out))
      go_ret
      exact ⟨ret_int HVE.out.symm, HB4.out⟩
end Go.Proofs.Ytnakmajnljpblaa.LayG
