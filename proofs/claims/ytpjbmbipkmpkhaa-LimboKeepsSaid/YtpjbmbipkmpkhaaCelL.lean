/-
  Contract of package cells: lists: the first heads and links of a configuration.
-/
import Derived.Test.YtpjbmbipkmpkhaaCelR
import Derived.Test.YtpjbmbipkmpkhaaLayK
namespace Go.Proofs.Ytpjbmbipkmpkhaa.CelL
open Go.ChangeShapes Go.WideShapes Go.ChangeAt Go.RowKit
open PlainT BlkW LayS LayA LayD LayF CelS CelM
set_option linter.unusedVariables false
set_option maxHeartbeats 1000000

/-- The head of class c when the first k blocks have been seen; the link of block b. -/
def hdv (q : Cfg) (k : Int) (c : Nat) : Int := if pre q c < k ∧ 0 < LayA.cnt q c then pre q c + 1 else 0
def hdL (q : Cfg) (k : Int) : List Int := [hdv q k 0, hdv q k 1, hdv q k 2, hdv q k 3]
def nxv (q : Cfg) (b : Int) : Int := if clsV q (b + 1) = clsV q b then b + 2 else 0
def nxL (q : Cfg) (n : Nat) : List Int := (List.range n).map fun b : Nat => nxv q b
def nxAt (q : Cfg) (n k : Nat) : List Int := (List.range n).map fun b : Nat => if b < k then nxv q b else 0
theorem hd_len (q : Cfg) (k : Int) : (hdL q k).length = 4 := rfl
theorem nxAt_len (q : Cfg) (n k : Nat) : (nxAt q n k).length = n := by simp [nxAt]
theorem nxAt_zero (q : Cfg) (n : Nat) : nxAt q n 0 = List.replicate n 0 := by
  apply List.ext_getElem
  · simp [nxAt]
  · intro i h1 h2
    simp [nxAt]
theorem nxAt_full (q : Cfg) (n : Nat) : nxAt q n n = nxL q n := by
  apply List.ext_getElem
  · simp [nxAt, nxL]
  · intro i h1 h2
    simp only [nxAt, List.length_map, List.length_range] at h1
    simp [nxAt, nxL, h1]
theorem nxAt_step (q : Cfg) (n k : Nat) (hk : k < n) (v : Int) (hv : nxv q k = v) : (nxAt q n k).set k v = nxAt q n (k + 1) := by
  apply List.ext_getElem
  · simp [nxAt]
  · intro i h1 h2
    simp only [nxAt, List.length_set, List.length_map, List.length_range] at h1
    rw [List.getElem_set]
    by_cases e : k = i
    · subst e
      rw [if_pos rfl]
      simp [nxAt, hv]
    · rw [if_neg e]
      simp only [nxAt, List.getElem_map, List.getElem_range]
      by_cases h3 : i < k
      · rw [if_pos h3, if_pos (by omega)]
      · rw [if_neg h3, if_neg (by omega)]
theorem nxAt_skip (q : Cfg) (n k : Nat) (hk : k < n) (hv : nxv q k = 0) : nxAt q n k = nxAt q n (k + 1) := by
  rw [← nxAt_step q n k hk 0 hv]
  apply List.ext_getElem
  · simp [nxAt]
  · intro i h1 h2
    rw [List.getElem_set]
    by_cases e : k = i
    · subst e
      rw [if_pos rfl]
      simp [nxAt]
    · rw [if_neg e]
theorem hd_zero {q : Cfg} (h : Valid q) : hdL q 0 = [0, 0, 0, 0] := by
  unfold Valid at h
  simp only [hdL, hdv, pre, LayA.cnt]
  rw [if_neg (by omega), if_neg (by omega), if_neg (by omega), if_neg (by omega)]
/-- The class of a block lies where it must. -/
theorem cls_in {q : Cfg} (h : Valid q) {k : Int} (h0 : 0 ≤ k) (h1 : k < q.c0 + q.c1 + q.c2 + q.c3) : pre q (clsN q k) ≤ k ∧ k < pre q (clsN q k) + LayA.cnt q (clsN q k) := by
  unfold Valid at h
  unfold clsN
  split
  · simp only [pre, LayA.cnt]; omega
  · split
    · simp only [pre, LayA.cnt]; omega
    · split <;> simp only [pre, LayA.cnt] <;> omega
theorem hd_other {q : Cfg} (h : Valid q) {k : Int} (h0 : 0 ≤ k) (h1 : k < q.c0 + q.c1 + q.c2 + q.c3) {c : Nat} (hc : c ≤ 3) (hne : c ≠ clsN q k) : hdv q (k + 1) c = hdv q k c := by
  unfold hdv
  have hx : ¬ (pre q c = k ∧ 0 < LayA.cnt q c) := by
    rintro ⟨e1, e2⟩
    apply hne
    have : k < pre q (c + 1) := by
      unfold Valid at h
      have hk' : c = 0 ∨ c = 1 ∨ c = 2 ∨ c = 3 := by omega
      rcases hk' with rfl | rfl | rfl | rfl <;> simp only [pre, LayA.cnt] at * <;> omega
    exact (loc_done h hc (by omega) this).1.symm
  by_cases e : pre q c < k ∧ 0 < LayA.cnt q c
  · rw [if_pos e, if_pos ⟨by omega, e.2⟩]
  · rw [if_neg e, if_neg (fun e2 => by
      by_cases e3 : pre q c = k
      · exact hx ⟨e3, e2.2⟩
      · exact e ⟨by omega, e2.2⟩)]
theorem hd_self {q : Cfg} (h : Valid q) {k : Int} (h0 : 0 ≤ k) (h1 : k < q.c0 + q.c1 + q.c2 + q.c3) : hdv q (k + 1) (clsN q k) = (if hdv q k (clsN q k) = 0 then k + 1 else hdv q k (clsN q k)) ∧ 0 ≤ hdv q k (clsN q k) ∧ hdv q k (clsN q k) ≤ k := by
  obtain ⟨a1, a2⟩ := cls_in h h0 h1
  have hp : 0 ≤ pre q (clsN q k) := by
    have := cls_lt q k
    unfold Valid at h
    have hk' : clsN q k = 0 ∨ clsN q k = 1 ∨ clsN q k = 2 ∨ clsN q k = 3 := by omega
    rcases hk' with e | e | e | e <;> rw [e] <;> simp only [pre] <;> omega
  have e1 : hdv q (k + 1) (clsN q k) = pre q (clsN q k) + 1 := if_pos ⟨by omega, by omega⟩
  by_cases e : pre q (clsN q k) < k
  · have e2 : hdv q k (clsN q k) = pre q (clsN q k) + 1 := if_pos ⟨e, by omega⟩
    rw [e1, e2, if_neg (by omega)]
    omega
  · have e2 : hdv q k (clsN q k) = 0 := if_neg (fun h => e h.1)
    rw [e1, e2, if_pos rfl]
    omega
theorem hd_get (q : Cfg) (k : Int) {c : Nat} (hc : c ≤ 3) : (hdL q k).getD c 0 = hdv q k c := by
  have hk' : c = 0 ∨ c = 1 ∨ c = 2 ∨ c = 3 := by omega
  rcases hk' with rfl | rfl | rfl | rfl <;> rfl
theorem hd_ext {q : Cfg} {k : Int} {xs : List Int} (hl : xs.length = 4) (h : ∀ c, c ≤ 3 → xs.getD c 0 = hdv q k c) : xs = hdL q k := by
  match xs, hl with
  | [x0, x1, x2, x3], _ =>
    have e0 := h 0 (by omega)
    have e1 := h 1 (by omega)
    have e2 := h 2 (by omega)
    have e3 := h 3 (by omega)
    simp at e0 e1 e2 e3
    subst e0 e1 e2 e3
    rfl
theorem hd_set {q : Cfg} (h : Valid q) {k : Int} (h0 : 0 ≤ k) (h1 : k < q.c0 + q.c1 + q.c2 + q.c3) (hz : hdv q k (clsN q k) = 0) : (hdL q k).set (clsN q k) (k + 1) = hdL q (k + 1) := by
  apply hd_ext (by simp [hd_len])
  intro c hc
  have hl := cls_lt q k
  by_cases e : c = clsN q k
  · rw [← e, List.getD_eq_getElem?_getD, List.getElem?_set_self (by rw [hd_len]; omega), Option.getD_some, e, (hd_self h h0 h1).1, if_pos hz]
  · rw [List.getD_eq_getElem?_getD, List.getElem?_set_ne (Ne.symm e), ← List.getD_eq_getElem?_getD, hd_get q k hc, hd_other h h0 h1 hc e]
theorem hd_keep {q : Cfg} (h : Valid q) {k : Int} (h0 : 0 ≤ k) (h1 : k < q.c0 + q.c1 + q.c2 + q.c3) (hz : hdv q k (clsN q k) ≠ 0) : hdL q k = hdL q (k + 1) := by
  apply hd_ext (hd_len q k)
  intro c hc
  rw [hd_get q k hc]
  by_cases e : c = clsN q k
  · rw [e, (hd_self h h0 h1).1, if_neg hz]
  · rw [hd_other h h0 h1 hc e]

set_option maxRecDepth 100000 in
theorem a_lists (q : Cfg) (hv : Valid q) (n : Nat) (hn : blkV q = n) (w : World) : Calls Try.prog 101 #[cfgV q] w fun e w' => ∃ gh gn, e = .returned (.tuple #[.slice (some ⟨gh, 0, none⟩) 4 4, .slice (some ⟨gn, 0, none⟩) n n]) ∧ Row w' gh (hdL q n) ∧ Row w' gn (nxL q n) ∧ gh ≠ gn ∧ w.heap.size ≤ gh ∧ w.heap.size ≤ gn ∧ Below w.heap.size w w' := by
  have HV := Lib.hid hv
  have HN := Lib.hid hn
  have HS := Lib.hid ((blk_of hv).symm.trans hn)
  have n64 : n ≤ 64 := by have := (blk_in q).2; omega
  have hbl := a_blocks q
  rw [hn] at hbl
  have hmk4 : ∀ w, (Instr.makeSlice TR (.int .i64 4) (.int .i64 4)).run Try.prog w = .ok (.slice (some ⟨w.heap.size, 0, none⟩) 4 4) (w.alloc (.cells (U ([0, 0, 0, 0])) TU)) := fun w => make_row w 4 (by omega)
  have hmk : ∀ w, (Instr.makeSlice TR (.int .i64 n) (.int .i64 n)).run Try.prog w = .ok (.slice (some ⟨w.heap.size, 0, none⟩) n n) (w.alloc (.cells (U (List.replicate n 0)) TU)) := fun w => make_row w n (by omega)
  have M0 := (Mem.new w TC (cells q)).alloc (.cells (U ([0, 0, 0, 0])) TU)
  have M1 : Row ((w.alloc (.cells (cells q) TC)).alloc (.cells (U ([0, 0, 0, 0])) TU)) (w.heap.size + 1) ([0, 0, 0, 0]) := mem_new1 _ _ _ _
  have B0 := below_new2 w (.cells (cells q) TC) (.cells (U ([0, 0, 0, 0])) TU)
  clear hv hn
  go_enter Try.func101, Try.ntmps101
  go_upto_region 2 with (fail)
  go_upto_region 3 with (go_at_call 97; (with_reducible refine (hbl _).mono ?_); rintro e w2 ⟨rfl, hb2⟩; have M2 := M0.below hb2 M0.lt; have R2 := M1.below hb2 M1.lt; have B2 := B0.trans (hb2.mono B0.size); clear hb2 M0 M1 B0)
  have M3 := M2.alloc (.cells (U (List.replicate n 0)) TU)
  have R3 : Row (w2.alloc (.cells (U (List.replicate n 0)) TU)) (w.heap.size + 1) (hdL q 0) := by
    rw [hd_zero HV.out]
    exact R2.alloc _
  have N3 : Row (w2.alloc (.cells (U (List.replicate n 0)) TU)) w2.heap.size (nxAt q n 0) := by
    rw [nxAt_zero]
    exact Mem.new _ _ _
  have B3 := B2.alloc B2.size (.cells (U (List.replicate n 0)) TU)
  obtain ⟨gn, hgn⟩ : ∃ gn, w2.heap.size = gn := ⟨_, rfl⟩
  have L2 := R2.lt
  have L3 := B2.size
  rw [hgn] at N3 L2 L3 ⊢
  obtain ⟨W3, hW3⟩ : ∃ W3, w2.alloc (.cells (U (List.replicate n 0)) TU) = W3 := ⟨_, rfl⟩
  rw [hW3] at M3 R3 N3 B3 ⊢
  clear hW3 hgn M2 R2 B2
  have HM := Lib.hid M3
  have HR := Lib.hid R3
  have HNx := Lib.hid N3
  have HB := Lib.hid B3
  clear M3 R3 N3 B3 hmk hmk4
  go_wp2_with fail
  go_loopw [12] (fun iv wr => ∃ k : Nat, k ≤ n ∧ iv = .int .i64 k ∧ Mem wr w.heap.size TC (cells q) ∧ Row wr (w.heap.size + 1) (hdL q k) ∧ Row wr gn (nxAt q n k) ∧ Below w.heap.size w wr) (fun iv _ => n - (intOf iv).toNat)
  case atStart => exact ⟨0, by omega, rfl, HM.out, HR.out, HNx.out, HB.out⟩
  case round =>
    obtain ⟨k, hk, rfl, hm, hr, hx, hb⟩ := hrel
    clear HM HR HNx HB
    have HM := Lib.hid hm
    have HR := Lib.hid hr
    have HX := Lib.hid hx
    have HB := Lib.hid hb
    clear hm hr hx hb
    obtain ⟨d0, d1, d2, d3, d4, d5, d6, d7, d8, d9, d10, d11, d12⟩ := box_cells HM.out
    by_cases hlt : k < n
    · have hca := a_class q k
      rw [cls_of (by omega) (by rw [HN.out]; omega)] at hca
      have hcb := a_class q (k + 1)
      have hc3 := cls_lt q k
      have HS1 := Lib.hid (hd_self HV.out (k := k) (by omega) (by rw [HS.out]; omega))
      have HST := Lib.hid (hd_set HV.out (k := k) (by omega) (by rw [HS.out]; omega))
      have HKP := Lib.hid (hd_keep HV.out (k := k) (by omega) (by rw [HS.out]; omega))
      have HNV : Hid (nxv q k = if clsV q ((k : Int) + 1) = (clsN q k : Int) then (k : Int) + 2 else 0) := Lib.hid (by unfold nxv; rw [cls_of (i := (k : Int)) (by omega) (by rw [HN.out]; omega)])
      have hg := hd_get q k hc3
      obtain ⟨c, hc⟩ : ∃ c, clsN q k = c := ⟨_, rfl⟩
      rw [hc] at hca hc3 HS1 HST HKP HNV hg
      obtain ⟨c1, hc1⟩ : ∃ c1, clsV q ((k : Int) + 1) = c1 := ⟨_, rfl⟩
      rw [hc1] at hcb HNV
      obtain ⟨v, hv⟩ : ∃ v, hdv q k c = v := ⟨_, rfl⟩
      rw [hv] at HS1 HST HKP hg
      have HVV : Hid (some (Value.int .u64 ((hdL q k).getD c 0)) = some (.int .u64 v)) := Lib.hid (by rw [hg])
      obtain ⟨v0, v1⟩ := HS1.out.2
      obtain ⟨u, hu⟩ : ∃ u, (nxAt q n k).getD k 0 = u := ⟨_, rfl⟩
      have HU : Hid (some (Value.int .u64 ((nxAt q n k).getD k 0)) = some (.int .u64 u)) := Lib.hid (by rw [hu])
      clear hc hc1 hg hv hu HS1 d0 d1 d2 d3 d4 d5 d6 d7 d8 d9 d10 d11 d12
      have hcn : (c : Int) < 4 := by omega
      have hkn : (k : Int) < n := by omega
      have k64 : (k : Int) ≤ 64 := by omega
      obtain ⟨d0, d1, d2, d3, d4, d5, d6, d7, d8, d9, d10, d11, d12⟩ := box_cells HM.out
      have HC1 := Lib.hid (clsV_in q ((k : Int) + 1))
      by_cases hz : v = 0
      · subst hz
        have HR9 : Hid ((hdL q k).set c ((k : Int) + 1) = hdL q ((k : Int) + 1)) := Lib.hid (HST.out rfl)
        clear HST HKP
        by_cases he : c1 = c
        · subst he
          have HX9 : Hid ((nxAt q n k).set k ((k : Int) + 2) = nxAt q n (k + 1)) := Lib.hid (nxAt_step q n k (by omega) _ (HNV.out.trans (if_pos rfl)))
          clear HNV
          go_wp2_with (first | (go_at_call 98; (with_reducible refine (hca _).mono ?_); rintro e w2 ⟨rfl, hb2⟩; have HM1 := Lib.hid (HM.out.below hb2 HM.out.lt); have HR1 := Lib.hid (HR.out.below hb2 HR.out.lt); have HX1 := Lib.hid (HX.out.below hb2 HX.out.lt); have HB1 := Lib.hid (HB.out.trans (hb2.mono HB.out.size)); clear hb2; have rc := (Row.cell HR1.out c (by rw [hd_len]; omega)).trans HVV.out; have rf := HR1.out.frozen c; clear d0 d1 d2 d3 d4 d5 d6 d7 d8 d9 d10 d11 d12; obtain ⟨d0, d1, d2, d3, d4, d5, d6, d7, d8, d9, d10, d11, d12⟩ := box_cells HM1.out) | (go_at_call 98; (with_reducible refine (hcb _).mono ?_); rintro e w3 ⟨rfl, hb3⟩; have HR2 := Lib.hid ((Row.put HR1.out c (k + 1)).below hb3 (Row.put HR1.out c (k + 1)).lt); have HM2 := Lib.hid ((HM1.out.far (a := ⟨w.heap.size + 1, c, none⟩) (by show w.heap.size ≠ w.heap.size + 1; omega) (.int .u64 (k + 1))).below hb3 (HM1.out.far (a := ⟨w.heap.size + 1, c, none⟩) (by show w.heap.size ≠ w.heap.size + 1; omega) (.int .u64 (k + 1))).lt); have HX2 := Lib.hid ((HX1.out.far (a := ⟨w.heap.size + 1, c, none⟩) (by show gn ≠ w.heap.size + 1; omega) (.int .u64 (k + 1))).below hb3 (HX1.out.far (a := ⟨w.heap.size + 1, c, none⟩) (by show gn ≠ w.heap.size + 1; omega) (.int .u64 (k + 1))).lt); have HB2 := Lib.hid ((HB1.out.setCell (p := ⟨w.heap.size + 1, c, none⟩) (by show w.heap.size ≤ w.heap.size + 1; omega) (.int .u64 (k + 1))).trans (hb3.mono (by simpa [World.setCell] using HB1.out.size))); clear hb3; have xf := HX2.out.frozen k; have xc := (Row.cell HX2.out k (by rw [nxAt_len]; omega)).trans HU.out))
          go_roundw
          case rel => exact ⟨k + 1, by omega, by go_num, HM2.out.far (by show w.heap.size ≠ gn; omega) _, by rw [show ((k + 1 : Nat) : Int) = (k : Int) + 1 by omega, ← HR9.out]; exact Mem.far HR2.out (a := ⟨gn, k, none⟩) (by show w.heap.size + 1 ≠ gn; omega) (.int .u64 (k + 2)), by rw [← HX9.out]; exact Row.put HX2.out k (k + 2), HB2.out.setCell (by show w.heap.size ≤ gn; omega) _⟩
          case measure => simp [intOf]; omega
        · have heb : (c1 == (c : Int)) = false := by simpa using he
          have HX9 : Hid (nxAt q n k = nxAt q n (k + 1)) := Lib.hid (nxAt_skip q n k (by omega) (HNV.out.trans (if_neg he)))
          clear he HNV
          go_wp2_with (first | (go_at_call 98; (with_reducible refine (hca _).mono ?_); rintro e w2 ⟨rfl, hb2⟩; have HM1 := Lib.hid (HM.out.below hb2 HM.out.lt); have HR1 := Lib.hid (HR.out.below hb2 HR.out.lt); have HX1 := Lib.hid (HX.out.below hb2 HX.out.lt); have HB1 := Lib.hid (HB.out.trans (hb2.mono HB.out.size)); clear hb2; have rc := (Row.cell HR1.out c (by rw [hd_len]; omega)).trans HVV.out; have rf := HR1.out.frozen c; clear d0 d1 d2 d3 d4 d5 d6 d7 d8 d9 d10 d11 d12; obtain ⟨d0, d1, d2, d3, d4, d5, d6, d7, d8, d9, d10, d11, d12⟩ := box_cells HM1.out) | (go_at_call 98; (with_reducible refine (hcb _).mono ?_); rintro e w3 ⟨rfl, hb3⟩; have HR2 := Lib.hid ((Row.put HR1.out c (k + 1)).below hb3 (Row.put HR1.out c (k + 1)).lt); have HM2 := Lib.hid ((HM1.out.far (a := ⟨w.heap.size + 1, c, none⟩) (by show w.heap.size ≠ w.heap.size + 1; omega) (.int .u64 (k + 1))).below hb3 (HM1.out.far (a := ⟨w.heap.size + 1, c, none⟩) (by show w.heap.size ≠ w.heap.size + 1; omega) (.int .u64 (k + 1))).lt); have HX2 := Lib.hid ((HX1.out.far (a := ⟨w.heap.size + 1, c, none⟩) (by show gn ≠ w.heap.size + 1; omega) (.int .u64 (k + 1))).below hb3 (HX1.out.far (a := ⟨w.heap.size + 1, c, none⟩) (by show gn ≠ w.heap.size + 1; omega) (.int .u64 (k + 1))).lt); have HB2 := Lib.hid ((HB1.out.setCell (p := ⟨w.heap.size + 1, c, none⟩) (by show w.heap.size ≤ w.heap.size + 1; omega) (.int .u64 (k + 1))).trans (hb3.mono (by simpa [World.setCell] using HB1.out.size))); clear hb3; have xf := HX2.out.frozen k; have xc := (Row.cell HX2.out k (by rw [nxAt_len]; omega)).trans HU.out))
          go_roundw
          case rel => exact ⟨k + 1, by omega, by go_num, HM2.out, by rw [show ((k + 1 : Nat) : Int) = (k : Int) + 1 by omega, ← HR9.out]; exact HR2.out, by rw [← HX9.out]; exact HX2.out, HB2.out⟩
          case measure => simp [intOf]; omega
      · have hzb : (v == 0) = false := by simpa using hz
        have HR9 : Hid (hdL q k = hdL q ((k : Int) + 1)) := Lib.hid (HKP.out hz)
        clear hz HST HKP
        by_cases he : c1 = c
        · subst he
          have HX9 : Hid ((nxAt q n k).set k ((k : Int) + 2) = nxAt q n (k + 1)) := Lib.hid (nxAt_step q n k (by omega) _ (HNV.out.trans (if_pos rfl)))
          clear HNV
          go_wp2_with (first | (go_at_call 98; (with_reducible refine (hca _).mono ?_); rintro e w2 ⟨rfl, hb2⟩; have HM1 := Lib.hid (HM.out.below hb2 HM.out.lt); have HR1 := Lib.hid (HR.out.below hb2 HR.out.lt); have HX1 := Lib.hid (HX.out.below hb2 HX.out.lt); have HB1 := Lib.hid (HB.out.trans (hb2.mono HB.out.size)); clear hb2; have rc := (Row.cell HR1.out c (by rw [hd_len]; omega)).trans HVV.out; have rf := HR1.out.frozen c; clear d0 d1 d2 d3 d4 d5 d6 d7 d8 d9 d10 d11 d12; obtain ⟨d0, d1, d2, d3, d4, d5, d6, d7, d8, d9, d10, d11, d12⟩ := box_cells HM1.out) | (go_at_call 98; (with_reducible refine (hcb _).mono ?_); rintro e w3 ⟨rfl, hb3⟩; have HR2 := Lib.hid (HR1.out.below hb3 HR1.out.lt); have HM2 := Lib.hid (HM1.out.below hb3 HM1.out.lt); have HX2 := Lib.hid (HX1.out.below hb3 HX1.out.lt); have HB2 := Lib.hid (HB1.out.trans (hb3.mono HB1.out.size)); clear hb3; have xf := HX2.out.frozen k; have xc := (Row.cell HX2.out k (by rw [nxAt_len]; omega)).trans HU.out))
          go_roundw
          case rel => exact ⟨k + 1, by omega, by go_num, HM2.out.far (by show w.heap.size ≠ gn; omega) _, by rw [show ((k + 1 : Nat) : Int) = (k : Int) + 1 by omega, ← HR9.out]; exact Mem.far HR2.out (a := ⟨gn, k, none⟩) (by show w.heap.size + 1 ≠ gn; omega) (.int .u64 (k + 2)), by rw [← HX9.out]; exact Row.put HX2.out k (k + 2), HB2.out.setCell (by show w.heap.size ≤ gn; omega) _⟩
          case measure => simp [intOf]; omega
        · have heb : (c1 == (c : Int)) = false := by simpa using he
          have HX9 : Hid (nxAt q n k = nxAt q n (k + 1)) := Lib.hid (nxAt_skip q n k (by omega) (HNV.out.trans (if_neg he)))
          clear he HNV
          go_wp2_with (first | (go_at_call 98; (with_reducible refine (hca _).mono ?_); rintro e w2 ⟨rfl, hb2⟩; have HM1 := Lib.hid (HM.out.below hb2 HM.out.lt); have HR1 := Lib.hid (HR.out.below hb2 HR.out.lt); have HX1 := Lib.hid (HX.out.below hb2 HX.out.lt); have HB1 := Lib.hid (HB.out.trans (hb2.mono HB.out.size)); clear hb2; have rc := (Row.cell HR1.out c (by rw [hd_len]; omega)).trans HVV.out; have rf := HR1.out.frozen c; clear d0 d1 d2 d3 d4 d5 d6 d7 d8 d9 d10 d11 d12; obtain ⟨d0, d1, d2, d3, d4, d5, d6, d7, d8, d9, d10, d11, d12⟩ := box_cells HM1.out) | (go_at_call 98; (with_reducible refine (hcb _).mono ?_); rintro e w3 ⟨rfl, hb3⟩; have HR2 := Lib.hid (HR1.out.below hb3 HR1.out.lt); have HM2 := Lib.hid (HM1.out.below hb3 HM1.out.lt); have HX2 := Lib.hid (HX1.out.below hb3 HX1.out.lt); have HB2 := Lib.hid (HB1.out.trans (hb3.mono HB1.out.size)); clear hb3; have xf := HX2.out.frozen k; have xc := (Row.cell HX2.out k (by rw [nxAt_len]; omega)).trans HU.out))
          go_roundw
          case rel => exact ⟨k + 1, by omega, by go_num, HM2.out, by rw [show ((k + 1 : Nat) : Int) = (k : Int) + 1 by omega, ← HR9.out]; exact HR2.out, by rw [← HX9.out]; exact HX2.out, HB2.out⟩
          case measure => simp [intOf]; omega
    · obtain rfl : k = n := by omega
      go_wp2
      go_ret2
      exact ⟨_, _, rfl, HR.out, by rw [← nxAt_full]; exact HX.out, by omega, by omega, by omega, HB.out⟩
end Go.Proofs.Ytpjbmbipkmpkhaa.CelL
