/-
  The walk of CodeSpoiled.
-/
import Derived.Test.YtafidppjabdecaaCodeDa
import Derived.Test.YtafidppjabdecaaCodeCa
import Derived.Test.YtafidppjabdecaaCodeTU
import Derived.Deep.DeepCutAuto
import Derived.Deep.CutBlock
namespace Go.Proofs.Ytafidppjabdecaa.CodeSp
open Go.ChangeShapes Go.WideShapes Go.ChangeAt Go.RowKit
open LawFrame
set_option linter.unusedVariables false
set_option maxHeartbeats 1000000
open PlainT BlkW CodeS CodeW CodeA CodeP CodeO CodeI CodeH CodeD CodeT CodeU CodeV CodeZ CodeQ CodeTU CodeDa
open CodeCa (bytes_five enc_row a_place_v)

/-- A row with one element turned. -/
theorem own_set {w : World} {B g n cap r : Nat} {e : TypeId} {xs : List Value} (h : w.ownsRow B e 1 (.slice (some ⟨g, 0, none⟩) n cap) n xs) (hr : r < n) (u : Value) :
    (w.setCell ⟨g, r, none⟩ u).ownsRow B e 1 (.slice (some ⟨g, 0, none⟩) n cap) n (xs.set r u) := by
  obtain ⟨hl, h⟩ := h
  rcases h with ⟨h, _⟩ | ⟨g', cap', cur, e1, hb, hh, h1, h2, h3, h4⟩
  · cases h
  · injection e1 with e1 _ e3
    injection e1 with e1
    injection e1 with e1
    subst e1 e3
    have hm : Mem w g e cur := hh
    refine ⟨by rw [List.length_set]; exact hl, .inr ⟨g, cap, cur.setIfInBounds r u, rfl, hb, hm.set_ r u, h1, h2, by rw [Array.size_setIfInBounds]; exact h3, ?_⟩⟩
    rw [Array.toList_setIfInBounds, List.take_set, h4]
theorem own_lit0 {w : World} {B : Nat} (hB : B ≤ w.heap.size) : (w.alloc (.cells #[] 5)).ownsRow B 5 1 (.slice (some ⟨w.heap.size, 0, none⟩) 0 0) 0 (bC []) :=
  ⟨rfl, .inr ⟨w.heap.size, 0, #[], rfl, hB, BlkW.heap_alloc_new w _, Nat.le_refl _, Nat.zero_le _, rfl, rfl⟩⟩
/-- A copy of a row of bytes. -/
theorem copy_row (w : World) (A : Option Addr) (n c : Nat) (z : List Int) (h : Ints .u8 w A n z) (hn : n ≤ 1000000000000) (hn4 : 4 < n) :
    ∃ g c' w', (Builtin.append_ #[31, 31] 31 #[.slice (some ⟨w.heap.size, 0, none⟩) 0 0, .slice A n c]).run Try.prog (w.alloc (.cells #[] 5)) = .ok (.slice (some ⟨g, 0, none⟩) n c') w' ∧
      w'.ownsRow w.heap.size 5 1 (.slice (some ⟨g, 0, none⟩) n c') n (bC z) ∧ n ≤ c' ∧ c' ≤ maxLen ∧ Below w.heap.size w w' := by
  have h0 : 0 < n := by omega
  have hs : (w.alloc (.cells #[] 5)).heap.size = w.heap.size + 1 := size_new _ _
  have hb : Below w.heap.size w (w.alloc (.cells #[] 5)) := below_new w _
  have hz := CodeQ.upto h hb
  have hrw : Rw w.heap.size (w.alloc (.cells #[] 5)) (.slice (some ⟨w.heap.size, 0, none⟩) 0 0) [] := .inl (own_lit0 (Nat.le_refl _))
  obtain ⟨g, off, rfl, hg, hc⟩ := hz.2.2 h0
  have hl := hz.1
  obtain ⟨v', w', hrun, hown', hgr⟩ := rw_append hrw (by omega) ⟨g, off, none⟩ n c z hl h0 (by
    intro j u hu
    unfold bC at hu
    rw [List.getElem?_map] at hu
    have hj : j < z.length := by
      rcases Nat.lt_or_ge j z.length with h3 | h3
      · exact h3
      · rw [List.getElem?_eq_none h3] at hu; cases hu
    rw [List.getElem?_eq_getElem hj] at hu
    obtain rfl : Value.int .u8 z[j] = u := by simpa using hu
    have hadd : (⟨g, off, none⟩ : Addr).add j = ⟨g, off + j, none⟩ := by unfold Addr.add; split <;> simp_all
    rw [hadd, hc j (by omega), List.getD_eq_getElem?_getD, List.getElem?_eq_getElem hj]
    rfl) (by simp; omega)
  rw [List.nil_append] at hown'
  obtain ⟨A', c', rfl, h1, h2⟩ := hown'.slice
  rw [hl] at hrun hown' h1
  have hbw : Below w.heap.size w w' := hb.grown hgr (by omega) (fun k hk => by
    simp [Value.ownBlock] at hk
    omega)
  have hown2 : w'.ownsRow w.heap.size 5 1 (.slice A' n c') n (bC z) := by
    rcases hown' with ho | ⟨h7, _⟩
    · rw [hl] at ho; exact ho
    · omega
  obtain ⟨g', cap, cur, e, _⟩ := own_cells hown2 h0
  injection e with e1 _ e3
  subst e1 e3
  exact ⟨g', c', w', hrun, hown2, h1, h2, hbw⟩
theorem own_ints {w : World} {B n : Nat} {A : Option Addr} {c : Nat} {z : List Int} (h : w.ownsRow B 5 1 (.slice A n c) n (bC z)) (hz : ∀ x ∈ z, InB x) : Ints .u8 w A n z := by
  have hl : z.length = n := by have := h.1; unfold bC at this; simpa using this
  subst hl
  exact ((show Rw B w (.slice A z.length c) z from .inl h).ints hz).2
/-- The byte that a number gives. -/
theorem byte_in (a : Int) : InB (IntKind.u8.wrap a) := by
  have h := wrap_within .u8 a
  rw [show IntKind.u8.min = 0 by decide, show IntKind.u8.max = 255 by decide] at h
  exact h
set_option maxHeartbeats 8000000 in
set_option maxRecDepth 100000 in
theorem sp_big (w : World) (sc : Scr) (v0 : Value) (hsc : Holds w w.heap.size sc v0) (a1 a2 a3 : Int) (hbig : ¬ (sc.init.length ≤ 20 ∧ sc.progs.length ≤ 5 ∧ sc.picks.length ≤ 20)) :
    Calls Try.prog 6 #[v0, .int .i64 a1, .int .i64 a2, .int .i64 a3] w fun e w' => e = .returned (.bool true) ∧ Kept w w' := by
  obtain ⟨x0, x1, x2, x3, x4, x5, x6, x7, x8, x9, x10, x11, Ai, ni, ci, Ap, np, cp, Ak, nk, ck, e1, rfl, hx, ⟨i1, i2, i3⟩, ⟨p1, p2, p3⟩, ⟨k1, k2, k3⟩⟩ := id hsc
  have hok := Holds.ok hsc
  have li := i3.1
  have lp := p3.1
  have lk := k3.1
  unfold maxLen at i2 p2 k2
  obtain ⟨w1, hw1⟩ : ∃ w1, w1 = w.alloc (.cells #[.int .i64 x0, .int .i64 x1, .int .i64 x2, .int .i64 x3, .int .i64 x4, .int .i64 x5, .int .i64 x6, .int .i64 x7, .int .i64 x8, .int .i64 x9, .int .i64 x10, .int .i64 x11, .bool sc.strong, .slice Ai ni ci, .slice Ap np cp, .slice Ak nk ck] 29) := ⟨_, rfl⟩
  have hb1 : Below w.heap.size w w1 := hw1 ▸ below_new w _
  have hm1 : Mem w1 w.heap.size 29 #[.int .i64 x0, .int .i64 x1, .int .i64 x2, .int .i64 x3, .int .i64 x4, .int .i64 x5, .int .i64 x6, .int .i64 x7, .int .i64 x8, .int .i64 x9, .int .i64 x10, .int .i64 x11, .bool sc.strong, .slice Ai ni ci, .slice Ap np cp, .slice Ak nk ck] := hw1 ▸ Mem.new w _ _
  have hh1 := Holds.upto hsc (Old.of_below hb1)
  have HW := Lib.hid hw1
  have HM := Lib.hid hm1
  have HH := Lib.hid hh1
  have HB := Lib.hid hb1
  have HOK := Lib.hid hok
  have HI := Lib.hid li
  have HP := Lib.hid lp
  have HK := Lib.hid lk
  have f0 := hm1.cell 0
  have f1 := hm1.cell 1
  have f2 := hm1.cell 2
  have f3 := hm1.cell 3
  have f4 := hm1.cell 4
  have f5 := hm1.cell 5
  have f6 := hm1.cell 6
  have f7 := hm1.cell 7
  have f8 := hm1.cell 8
  have f9 := hm1.cell 9
  have f10 := hm1.cell 10
  have f11 := hm1.cell 11
  have f12 := hm1.cell 12
  have f13 := hm1.cell 13
  have f14 := hm1.cell 14
  have f15 := hm1.cell 15
  simp at f0 f1 f2 f3 f4 f5 f6 f7 f8 f9 f10 f11 f12 f13 f14 f15
  have hgl := hm1.lt
  clear hb1 hm1 hh1 hw1 hok li lp lk i3 p3 k3 hx e1 hsc
  have hsm : ¬ (ni ≤ 20 ∧ np ≤ 5 ∧ nk ≤ 20) := by have := HI.out; have := HP.out; have := HK.out; omega
  clear hbig
  have hc : 20 < ni ∨ ni ≤ 20 ∧ 5 < np ∨ ni ≤ 20 ∧ np ≤ 5 ∧ 20 < nk := by omega
  clear hsm
  rcases hc with c1 | ⟨c1, c2⟩ | ⟨c1, c2, c3⟩
  all_goals
    go_enter Try.func6, Try.ntmps6
    go_upto_region 1 with (fail)
    rw [← HW.out]
    clear HW
    go_wp2_with (go_at_call 9; refine (a_awake _).mono ?_; rintro e w2 ⟨rfl, hb2⟩)
    go_ret
    exact ⟨rfl, Kept.of_below (kept_trans HB.out hb2)⟩
set_option maxHeartbeats 8000000 in
set_option maxRecDepth 100000 in
theorem sp_small (w : World) (sc : Scr) (v0 : Value) (hsc : Holds w w.heap.size sc v0) (a1 a2 a3 : Int) (i1a : InI a1) (i2a : InI a2) (i3a : InI a3) (q1 : sc.init.length ≤ 20) (q2 : sc.progs.length ≤ 5) (q3 : sc.picks.length ≤ 20) (qp : ∀ p ∈ sc.progs, p.length ≤ 1048576) :
    Calls Try.prog 6 #[v0, .int .i64 a1, .int .i64 a2, .int .i64 a3] w fun e w' => e = .returned (.bool true) ∧ Kept w w' := by
  obtain ⟨x0, x1, x2, x3, x4, x5, x6, x7, x8, x9, x10, x11, Ai, ni, ci, Ap, np, cp, Ak, nk, ck, e1, rfl, hx, ⟨i1, i2, i3⟩, ⟨p1, p2, p3⟩, ⟨k1, k2, k3⟩⟩ := id hsc
  have hok := Holds.ok hsc
  have li := i3.1
  have lp := p3.1
  have lk := k3.1
  unfold maxLen at i2 p2 k2
  obtain ⟨w1, hw1⟩ : ∃ w1, w1 = w.alloc (.cells #[.int .i64 x0, .int .i64 x1, .int .i64 x2, .int .i64 x3, .int .i64 x4, .int .i64 x5, .int .i64 x6, .int .i64 x7, .int .i64 x8, .int .i64 x9, .int .i64 x10, .int .i64 x11, .bool sc.strong, .slice Ai ni ci, .slice Ap np cp, .slice Ak nk ck] 29) := ⟨_, rfl⟩
  have hb1 : Below w.heap.size w w1 := hw1 ▸ below_new w _
  have hm1 : Mem w1 w.heap.size 29 #[.int .i64 x0, .int .i64 x1, .int .i64 x2, .int .i64 x3, .int .i64 x4, .int .i64 x5, .int .i64 x6, .int .i64 x7, .int .i64 x8, .int .i64 x9, .int .i64 x10, .int .i64 x11, .bool sc.strong, .slice Ai ni ci, .slice Ap np cp, .slice Ak nk ck] := hw1 ▸ Mem.new w _ _
  have hh1 := Holds.upto hsc (Old.of_below hb1)
  have HW := Lib.hid hw1
  have HM := Lib.hid hm1
  have HH := Lib.hid hh1
  have HB := Lib.hid hb1
  have HOK := Lib.hid hok
  have HI := Lib.hid li
  have HP := Lib.hid lp
  have HK := Lib.hid lk
  have f0 := hm1.cell 0
  have f1 := hm1.cell 1
  have f2 := hm1.cell 2
  have f3 := hm1.cell 3
  have f4 := hm1.cell 4
  have f5 := hm1.cell 5
  have f6 := hm1.cell 6
  have f7 := hm1.cell 7
  have f8 := hm1.cell 8
  have f9 := hm1.cell 9
  have f10 := hm1.cell 10
  have f11 := hm1.cell 11
  have f12 := hm1.cell 12
  have f13 := hm1.cell 13
  have f14 := hm1.cell 14
  have f15 := hm1.cell 15
  simp at f0 f1 f2 f3 f4 f5 f6 f7 f8 f9 f10 f11 f12 f13 f14 f15
  have hgl := hm1.lt
  obtain ⟨l, hl⟩ : ∃ l, bytesOf sc = l := ⟨_, rfl⟩
  have HBY := Lib.hid (show ∀ b ∈ l, InB b from hl ▸ bytes_byte _ hok)
  have HLE := Lib.hid (show l.length ≤ 800000000000 from hl ▸ bytes_len sc hok (by omega) (by omega) (by omega) qp)
  have H5 := Lib.hid (show 4 < l.length from hl ▸ bytes_five sc)
  have HL := Lib.hid hl
  have H1a := Lib.hid i1a
  have H2a := Lib.hid i2a
  have H3a := Lib.hid i3a
  clear hl hb1 hm1 hh1 hw1 hok li lp lk i3 p3 k3 hx e1 hsc i1a i2a i3a
  have c1 : ni ≤ 20 := by have := HI.out; omega
  have c2 : np ≤ 5 := by have := HP.out; omega
  have c3 : nk ≤ 20 := by have := HK.out; omega
  clear q1 q2 q3 qp
  go_enter Try.func6, Try.ntmps6
  go_upto_region 1 with (fail)
  rw [← HW.out]
  clear HW
  go_wp2_with fail
  refine (r_encode HH.out l HL.out HLE.out).mono ?_
  rintro e w3 h3
  obtain ⟨hb3, h3⟩ := h3
  have HB3 := Lib.hid (kept_trans HB.out hb3)
  have HB3' := Lib.hid HB3.out.size
  rcases h3 with ⟨hlong, rfl⟩ | ⟨hshort, A, c, rfl, hrw⟩
  · clear hb3 HM HH HB f0 f1 f2 f3 f4 f5 f6 f7 f8 f9 f10 f11 f12 f13 f14 f15
    go_wp2_with (go_at_call 9; refine (a_awake _).mono ?_; rintro e w4 ⟨rfl, hb4⟩)
    go_ret
    exact ⟨rfl, Kept.of_below (kept_trans HB3.out hb4)⟩
  · have hi3 := (hrw.ints HBY.out).2
    obtain ⟨n, hn⟩ : ∃ n, l.length = n := ⟨_, rfl⟩
    rw [hn] at hi3 hshort ⊢
    have h0n : 4 < n := hn ▸ H5.out
    obtain ⟨g, c4, w4, hrun, hown4, hnc4, hcm4, hb4⟩ := copy_row w3 A n c l hi3 (by omega) h0n
    have HR := Lib.hid hrun
    have HO4 := Lib.hid hown4
    have HN := Lib.hid hn
    have HB4 := Lib.hid (kept_trans HB3.out hb4)
    have HNC := Lib.hid hnc4
    have HCM := Lib.hid hcm4
    have hc4' : c4 ≤ 9223372036854775807 := by unfold maxLen at hcm4; omega
    clear hb3 hrw hi3 hrun hown4 hb4 hn hcm4 HM HH HB f0 f1 f2 f3 f4 f5 f6 f7 f8 f9 f10 f11 f12 f13 f14 f15 HB3
    obtain ⟨r, hr⟩ : ∃ r : Nat, (r : Int) = IntKind.u64.wrap a1 % n := ⟨(IntKind.u64.wrap a1 % n).toNat, by have := Int.emod_nonneg (IntKind.u64.wrap a1) (b := (n : Int)) (by omega); omega⟩
    have hrn : r < n := by have := Int.emod_lt_of_pos (IntKind.u64.wrap a1) (b := (n : Int)) (by omega); omega
    obtain ⟨x, hx⟩ : ∃ x, IntKind.u8.wrap a2 = x := ⟨_, rfl⟩
    have HX := Lib.hid (show InB x from hx ▸ byte_in a2)
    have hcr : w4.cell? ⟨g, r, none⟩ = some (.int .u8 (l.getD r 0)) := by
      obtain ⟨g', cap, cur, e, _, _, _, h6⟩ := own_cells HO4.out (by omega)
      injection e with e1
      injection e1 with e1
      injection e1 with e1
      subst e1
      rw [h6 r (by omega)]
      unfold bC
      rw [List.getElem?_map, List.getElem?_eq_getElem (by rw [HN.out]; exact hrn), List.getD_eq_getElem?_getD, List.getElem?_eq_getElem (by rw [HN.out]; exact hrn)]
      rfl
    have hfr : w4.frozen? ⟨g, r, none⟩ = false := by
      obtain ⟨g', cap, cur, e, _, h6, _⟩ := own_cells HO4.out (by omega)
      injection e with e1
      injection e1 with e1
      injection e1 with e1
      subst e1
      exact Mem.frozen h6 r
    have HRr := Lib.hid hr
    have hrr : IntKind.u64.wrap a1 % n = (r : Int) := hr.symm
    clear hr
    go_upto_region 6 with fail
    go_upto_block 0 with (first
      | (at_builtin; refine wpList_append_run rfl _ _ _ rfl HR.out (by rfl) (by rfl) ?_)
      | (go_at_call 16; (with_reducible refine (a_place_v a1 n (by omega) (by omega) H1a.out _).mono ?_); rintro e wz ⟨he, rfl⟩; rw [hrr] at he; subst he))
    have hbg : w3.heap.size ≤ g := by
      obtain ⟨g', cap, cur, e, h6, _⟩ := own_cells HO4.out (by omega)
      injection e with e1
      injection e1 with e1
      injection e1 with e1
      subst e1
      exact h6
    have ho5 := own_set HO4.out hrn (.int .u8 x)
    rw [show (bC l).set r (.int .u8 x) = bC (l.set r x) by unfold bC; rw [List.map_set]] at ho5
    have hin5 : ∀ b ∈ l.set r x, InB b := fun b hb => by
      rcases List.mem_or_eq_of_mem_set hb with h1 | h1
      · exact HBY.out b h1
      · rw [h1]; exact HX.out
    obtain ⟨w5, hw5⟩ : ∃ w5, w5 = w4.setCell ⟨g, r, none⟩ (.int .u8 x) := ⟨_, rfl⟩
    have hB5 : Below w.heap.size w w5 := hw5 ▸ HB4.out.setCell (Nat.le_trans HB3'.out hbg) _
    rw [← hw5] at ho5 ⊢
    have HO5 := Lib.hid ho5
    have HB5 := Lib.hid hB5
    have HIN5 := Lib.hid hin5
    have h3w : w3.heap.size ≤ w5.heap.size := by
      have := (ho5.lt g rfl).2
      omega
    clear hw5 ho5 hB5 hin5 HO4 HB4 HR hcr hfr hbg HBY
    obtain ⟨t, ht⟩ : ∃ t : Nat, (t : Int) = IntKind.u64.wrap a3 % 4 := ⟨(IntKind.u64.wrap a3 % 4).toNat, by omega⟩
    have ht4 : t < 4 := by omega
    have htt : IntKind.u64.wrap a3 % 4 = (t : Int) := ht.symm
    clear ht
    refine (a_place_v a3 4 (by omega) (by omega) H3a.out _).mono ?_
    rintro e wz ⟨he, rfl⟩
    rw [htt] at he
    subst he
    go_upto_block 0 with fail
    go_cut [11] (fun cv wc => ∃ (Az : Option Addr) (nz cz : Nat) (z : List Int), cv = .slice Az nz cz ∧ nz ≤ cz ∧ cz ≤ maxLen ∧ Ints .u8 wc Az nz z ∧ Below w.heap.size w wc)
    case first =>
      have hi5 := own_ints HO5.out HIN5.out
      have HI5 := Lib.hid hi5
      clear hi5
      rcases (show t = 0 ∨ t = 1 ∨ 2 ≤ t by omega) with rfl | rfl | ht2
      · obtain ⟨a4, ha4⟩ : ∃ a4, a3.tdiv 4 = a4 := ⟨_, rfl⟩
        have hia : InI a4 := by
          have h1 := H3a.out
          unfold InI at h1 ⊢
          rw [← ha4]
          rcases Int.le_total 0 a3 with h2 | h2
          · rw [Int.tdiv_eq_ediv_of_nonneg h2]; omega
          · have h3 : a3.tdiv 4 = -((-a3).tdiv 4) := by rw [Int.neg_tdiv]; omega
            rw [h3, Int.tdiv_eq_ediv_of_nonneg (by omega)]
            omega
        have HIA := Lib.hid hia
        have hia1 := hia.1
        have hia2 := hia.2
        unfold InI at hia
        obtain ⟨r2, hr2⟩ : ∃ r2 : Nat, (r2 : Int) = IntKind.u64.wrap a4 % ((n : Int) + 1) := ⟨(IntKind.u64.wrap a4 % ((n : Int) + 1)).toNat, by have := Int.emod_nonneg (IntKind.u64.wrap a4) (b := (n : Int) + 1) (by omega); omega⟩
        have hrn2 : r2 ≤ n := by have := Int.emod_lt_of_pos (IntKind.u64.wrap a4) (b := (n : Int) + 1) (by omega); omega
        have hrr2 : IntKind.u64.wrap a4 % ((n : Int) + 1) = (r2 : Int) := hr2.symm
        clear hr2 hrr htt
        go_wp2_with ((go_at_call 16; (with_reducible refine (a_place_v a4 ((n : Int) + 1) (by omega) (by omega) HIA.out _).mono ?_); rintro e wz ⟨he, rfl⟩; rw [hrr2] at he; subst he))
        all_goals go_meet
        have hi6 := HI5.out
        refine ⟨_, _, _, (l.set r x).take r2, rfl, by have := HNC.out; omega, HCM.out, ?_, HB5.out⟩
        refine ⟨by rw [List.length_take, hi6.1]; omega, fun y hy => hi6.2.1 y (List.mem_of_mem_take hy), fun h0 => ?_⟩
        obtain ⟨b', off', e, hbb, hcc⟩ := hi6.2.2 (by omega)
        refine ⟨b', off', e, hbb, fun i hi => ?_⟩
        rw [hcc i (by omega), List.getD_eq_getElem?_getD, List.getD_eq_getElem?_getD, List.getElem?_take, if_pos hi]
      · have hrw5 : Rw w3.heap.size w5 (.slice (some ⟨g, 0, none⟩) n c4) (l.set r x) := by
          refine .inl ?_
          rw [List.length_set, HN.out]
          exact HO5.out
        have hin6 : ∀ b ∈ l.set r x ++ [x], InB b := fun b hb => by
          rcases List.mem_append.1 hb with h1 | h1
          · exact HIN5.out b h1
          · rw [List.mem_singleton.1 h1]; exact HX.out
        have hws : (w5.alloc (.cells #[.int .u8 x] 5)).heap.size = w5.heap.size + 1 := size_new _ _
        have hrw6 := hrw5.old ((Old.refl w5).alloc (.cells #[.int .u8 x] 5))
        obtain ⟨v6, w6, hrun6, hown6, hgr6⟩ := rw_append hrw6 (by rw [hws]; omega) ⟨w5.heap.size, 0, none⟩ 1 1 [x] rfl (by omega) (cell_lit (W := w5) (T := 5) (l := bC [x])) (by have := HLE.out; rw [List.length_set]; omega)
        obtain ⟨A6, c6, rfl, h61, h62⟩ := hown6.slice
        have hlen6 : (l.set r x ++ [x]).length = l.length + 1 := by simp
        have hj6 := (hown6.ints hin6).2
        rw [hlen6] at hj6 h61
        have hi6 := Lib.hid hj6
        have HR6 := Lib.hid hrun6
        have H61 := Lib.hid h61
        have H62 := Lib.hid h62
        have hb6 := Lib.hid (((HB5.out.alloc HB5.out.size _)).grown hgr6 (by rw [hws]; have := HB5.out.size; omega) (fun k hk => by
          have h7 := (hrw6.row k hk).1
          have := HB3'.out
          omega))
        clear hj6 hlen6 hrw5 hin6 hrw6 hrun6 hown6 hgr6 h61 h62 hrr htt hws
        go_wp2_with (at_builtin; refine wpList_append_run rfl _ _ _ rfl HR6.out (by rfl) (by rfl) ?_)
        all_goals go_meet
        exact ⟨_, _, _, _, rfl, H61.out, H62.out, hi6.out, hb6.out⟩
      · clear hrr htt
        go_wp2_with fail
        all_goals go_meet
        exact ⟨_, _, _, _, rfl, HNC.out, HCM.out, HI5.out, HB5.out⟩
    case rest =>
    obtain ⟨Az, nz, cz, z, rfl, lz, mz, iz, hbz⟩ := hcut
    have HIz := Lib.hid iz
    have HBz := Lib.hid hbz
    have HINz := Lib.hid (inb iz)
    have HMz := Lib.hid mz
    clear iz hbz HO5 HB5 HIN5 h3w
    unfold maxLen at mz
    obtain ⟨S0, hS0⟩ : ∃ S0, scrD z = S0 := ⟨_, rfl⟩
    obtain ⟨E0, hE0⟩ : ∃ E0, errD z = E0 := ⟨_, rfl⟩
    have HS0 := Lib.hid hS0
    have HE0 := Lib.hid hE0
    clear hS0 hE0
    as_aux_lemma =>
    go_wp2_with fail
    refine (a_decode _ _ _ z _ lz HMz.out HIz.out).mono ?_
    rintro e u0a hd
    obtain ⟨hb, v, rfl, hh⟩ := dec_any hd HINz.out
    rw [HE0.out]
    rw [HS0.out] at hh
    have hx := hh
    obtain ⟨pq0, pq1, pq2, pq3, pq4, pq5, pq6, pq7, pq8, pq9, pq10, pq11, pqb, pqA, pqn, pqc, pqP, pqp, pqd, pqK, pqk, pqe, rfl⟩ := Holds.agg hx
    obtain ⟨u0, hw⟩ : ∃ u0, u0 = u0a.alloc (.cells #[.int .i64 pq0, .int .i64 pq1, .int .i64 pq2, .int .i64 pq3, .int .i64 pq4, .int .i64 pq5, .int .i64 pq6, .int .i64 pq7, .int .i64 pq8, .int .i64 pq9, .int .i64 pq10, .int .i64 pq11, .bool pqb, .slice pqA pqn pqc, .slice pqP pqp pqd, .slice pqK pqk pqe] 29) := ⟨_, rfl⟩
    have hbn : Below u0a.heap.size u0a u0 := hw ▸ below_new u0a _
    have M0 := Lib.hid (show Mem u0 u0a.heap.size 29 #[.int .i64 pq0, .int .i64 pq1, .int .i64 pq2, .int .i64 pq3, .int .i64 pq4, .int .i64 pq5, .int .i64 pq6, .int .i64 pq7, .int .i64 pq8, .int .i64 pq9, .int .i64 pq10, .int .i64 pq11, .bool pqb, .slice pqA pqn pqc, .slice pqP pqp pqd, .slice pqK pqk pqe] from hw ▸ Mem.new u0a _ _)
    have X0 := Lib.hid (Holds.upto hh (Old.of_below hbn))
    have hbk := kept_trans hb hbn
    have HW0 := Lib.hid hw
    obtain ⟨k0, hg0⟩ : ∃ k0, k0 = u0a.heap.size := ⟨_, rfl⟩
    have HG0 := Lib.hid hg0
    rw [← hg0] at M0
    have HB0 := Lib.hid (kept_trans HBz.out hbk)
    have HI0 := Lib.hid (CodeQ.upto HIz.out hbk)
    clear hd hb hh hx hw hbn hbk hg0 HIz HBz
    go_upto_region 14 with fail
    rw [← HW0.out, ← HG0.out]
    clear HW0
    go_wp2_with fail
    refine (r_decode _ _ _ z _ lz HMz.out HI0.out).mono ?_
    rintro e u1a hd
    obtain ⟨hb, v, rfl, hh⟩ := dec_any hd HINz.out
    rw [HE0.out]
    rw [HS0.out] at hh
    have hx := hh
    obtain ⟨qq0, qq1, qq2, qq3, qq4, qq5, qq6, qq7, qq8, qq9, qq10, qq11, qqb, qqA, qqn, qqc, qqP, qqp, qqd, qqK, qqk, qqe, rfl⟩ := Holds.agg hx
    obtain ⟨u1, hw⟩ : ∃ u1, u1 = u1a.alloc (.cells #[.int .i64 qq0, .int .i64 qq1, .int .i64 qq2, .int .i64 qq3, .int .i64 qq4, .int .i64 qq5, .int .i64 qq6, .int .i64 qq7, .int .i64 qq8, .int .i64 qq9, .int .i64 qq10, .int .i64 qq11, .bool qqb, .slice qqA qqn qqc, .slice qqP qqp qqd, .slice qqK qqk qqe] 29) := ⟨_, rfl⟩
    have hbn : Below u1a.heap.size u1a u1 := hw ▸ below_new u1a _
    have M1 := Lib.hid (show Mem u1 u1a.heap.size 29 #[.int .i64 qq0, .int .i64 qq1, .int .i64 qq2, .int .i64 qq3, .int .i64 qq4, .int .i64 qq5, .int .i64 qq6, .int .i64 qq7, .int .i64 qq8, .int .i64 qq9, .int .i64 qq10, .int .i64 qq11, .bool qqb, .slice qqA qqn qqc, .slice qqP qqp qqd, .slice qqK qqk qqe] from hw ▸ Mem.new u1a _ _)
    have X1 := Lib.hid (Holds.upto hh (Old.of_below hbn))
    have hbk := kept_trans hb hbn
    have HW1 := Lib.hid hw
    obtain ⟨k1, hg1⟩ : ∃ k1, k1 = u1a.heap.size := ⟨_, rfl⟩
    have HG1 := Lib.hid hg1
    rw [← hg1] at M1
    have HB1 := Lib.hid (kept_trans HB0.out hbk)
    have M0' := Lib.hid (M0.out.below hbk M0.out.lt)
    have X0' := Lib.hid (Holds.upto X0.out (Old.of_below hbk))
    clear hd hb hh hx hw hbn hbk hg1 HI0 HB0 M0 X0
    go_upto_region 15 with fail
    rw [← HW1.out, ← HG1.out]
    clear HW1
    have f0_0 := M0'.out.cell 0
    have f0_1 := M0'.out.cell 1
    have f0_2 := M0'.out.cell 2
    have f0_3 := M0'.out.cell 3
    have f0_4 := M0'.out.cell 4
    have f0_5 := M0'.out.cell 5
    have f0_6 := M0'.out.cell 6
    have f0_7 := M0'.out.cell 7
    have f0_8 := M0'.out.cell 8
    have f0_9 := M0'.out.cell 9
    have f0_10 := M0'.out.cell 10
    have f0_11 := M0'.out.cell 11
    have f0_12 := M0'.out.cell 12
    have f0_13 := M0'.out.cell 13
    have f0_14 := M0'.out.cell 14
    have f0_15 := M0'.out.cell 15
    have f1_0 := M1.out.cell 0
    have f1_1 := M1.out.cell 1
    have f1_2 := M1.out.cell 2
    have f1_3 := M1.out.cell 3
    have f1_4 := M1.out.cell 4
    have f1_5 := M1.out.cell 5
    have f1_6 := M1.out.cell 6
    have f1_7 := M1.out.cell 7
    have f1_8 := M1.out.cell 8
    have f1_9 := M1.out.cell 9
    have f1_10 := M1.out.cell 10
    have f1_11 := M1.out.cell 11
    have f1_12 := M1.out.cell 12
    have f1_13 := M1.out.cell 13
    have f1_14 := M1.out.cell 14
    have f1_15 := M1.out.cell 15
    simp at f0_0 f0_1 f0_2 f0_3 f0_4 f0_5 f0_6 f0_7 f0_8 f0_9 f0_10 f0_11 f0_12 f0_13 f0_14 f0_15 f1_0 f1_1 f1_2 f1_3 f1_4 f1_5 f1_6 f1_7 f1_8 f1_9 f1_10 f1_11 f1_12 f1_13 f1_14 f1_15
    go_wp2_with fail
    refine (k_script _ _ S0 _ _ _ X0'.out X1.out).mono ?_
    rintro e w8 ⟨rfl, hb8⟩
    have HB8 := Lib.hid (kept_trans HB1.out hb8)
    clear hb8 M0' X0' M1 X1 HB1 f0_0 f0_1 f0_2 f0_3 f0_4 f0_5 f0_6 f0_7 f0_8 f0_9 f0_10 f0_11 f0_12 f0_13 f0_14 f0_15 f1_0 f1_1 f1_2 f1_3 f1_4 f1_5 f1_6 f1_7 f1_8 f1_9 f1_10 f1_11 f1_12 f1_13 f1_14 f1_15
    go_wp2_with fail
    refine (a_awake _).mono ?_
    rintro e w9 ⟨rfl, hb9⟩
    go_wp2
    go_ret
    exact ⟨rfl, Kept.of_below (kept_trans HB8.out hb9)⟩
end Go.Proofs.Ytafidppjabdecaa.CodeSp
