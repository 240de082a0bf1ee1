/-
  Proved: List returns the blocks and the error of the document for the images of new cells whose links are changed, and for any images. No condition.
-/
import Derived.Test.YtpnkjdamgkaonaaRows
import Derived.WalkKit
import Derived.ProofKit
import Derived.OpenShut
import Derived.Test.YtpnkjdamgkaonaaFrame
import Derived.Test.YtpnkjdamgkaonaaFreL
import Derived.Test.YtpnkjdamgkaonaaFreO
import Derived.Deep.RegionHeld3
import Derived.Deep.RegionLaw
import Derived.Deep.Cut
import Derived.Deep.DeepCutAuto
import Derived.Deep.CutBlock
namespace Go.Proofs.Ytpnkjdamgkaonaa.freelistLists
open Go.ChangeShapes Go.WideShapes Go.ChangeAt Go.RowKit
open LawFrame
open Go.ChangeMaps (open_string)
set_option linter.unusedVariables false

theorem own : ownKnob Try.prog.godebug = none := by kernel_rfl
theorem laidOut : laidOutB Try.prog = true := by kernel_rfl

open PlainT BlkW LayS LayA LayH LayK LayP CelS CelM CelP CelV CelN CelO CelI CelY CelQ LabD LabR LabP LabS LabT FreP FreQ FreV FreC FreI FreA FreS FreW FreL
set_option maxHeartbeats 4000000
set_option maxRecDepth 100000
/-- A row of words of the call's own. -/
theorem own_form {w : World} {B n c : Nat} {A : Option Addr} {xs : List Int} (h : OwnU w B (.slice A n c) xs) (h0 : 0 < xs.length) : ∃ g, A = some ⟨g, 0, none⟩ ∧ B ≤ g ∧ g < w.heap.size ∧ (∀ i, i < xs.length → w.cell? ⟨g, i, none⟩ = some (.int .u64 (xs.getD i 0))) ∧ ∀ i, w.frozen? ⟨g, i, none⟩ = false := by
  obtain ⟨g, cap, cur, e, hB, hh, hl, hc⟩ := own_cells h (by omega)
  injection e with e1 e2 e3
  subst e1
  refine ⟨g, rfl, hB, hl, fun i hi => ?_, fun i => Mem.frozen (show Mem w g TU cur from hh) i⟩
  rw [hc i (by omega)]
  unfold us
  rw [List.getElem?_map, List.getD_eq_getElem?_getD, List.getElem?_eq_getElem hi]
  rfl
theorem own_apart {w : World} {B n c : Nat} {g g' : Nat} {xs : List Int} (h : OwnU w B (.slice (some ⟨g, 0, none⟩) n c) xs) (hne : g' ≠ g) (j : Nat) (v : Value) : OwnU (w.setCell ⟨g', j, none⟩ v) B (.slice (some ⟨g, 0, none⟩) n c) xs :=
  own_far h (by simp [Value.ownBlock, Ne.symm hne]) v
theorem getD_set (N : List Int) (i j : Nat) (v : Int) : (N.set i v).getD j 0 = if j = i ∧ j < N.length then v else N.getD j 0 := by
  by_cases e : j = i
  · subst e
    by_cases h : j < N.length
    · rw [if_pos ⟨rfl, h⟩, FreP.getD_set_at h]
    · rw [if_neg (fun h2 => h h2.2), List.getD_eq_getElem?_getD, List.getD_eq_getElem?_getD, List.getElem?_eq_none (by rw [List.length_set]; omega), List.getElem?_eq_none (by omega)]
  · rw [if_neg (fun h => e h.1), FreP.getD_set_ne e]
theorem ls_len {N : List Int} : ∀ (f : Nat) (seen : List Bool) (out : List Int) (k : Int) (o : List Int), lsF f N seen out k = some o → o.length < out.length + f
  | 0, _, _, _, _, h => by cases h
  | f + 1, seen, out, k, o, h => by
    unfold lsF at h
    split at h
    · injection h with h
      subst h
      omega
    · split at h
      · cases h
      · split at h
        · cases h
        · have := ls_len f _ _ _ _ h
          simp at this
          omega
/-- What List answers. -/
def outV (nh : Nat) (H N : List Int) (k : Int) : List Int × Int := if k < 0 ∨ 4 ≤ k ∨ nh ≠ 4 then ([], 2) else match lsV N (H.getD k.toNat 0 % 65536) with | none => ([], 91) | some o => (o, 0)
theorem out_len (nh : Nat) (H N : List Int) (k : Int) : (outV nh H N k).1.length ≤ N.length := by
  unfold outV
  split
  · exact Nat.zero_le _
  · split
    · exact Nat.zero_le _
    · rename_i o h
      have := ls_len _ _ _ _ _ h
      show o.length ≤ _
      simp at this
      omega
def Any (nh : Nat) (H N : List Int) (k : Int) (w : World) (e : Ending) (w' : World) : Prop := ∃ A n c, e = .returned (.tuple #[.slice A n c, .int .i64 (outV nh H N k).2]) ∧ Below w.heap.size w w' ∧ OwnQ w' w.heap.size (.slice A n c) (outV nh H N k).1
theorem a_any (A0 A1 A2 A3 A4 : Option Addr) (n0 n1 n2 n3 n4 c0 c1 c2 c3 c4 : Nat) (c t s k : Int) (w : World) (H N : List Int) (hH : Rd w (.slice A3 n3 c3) H) (hN : Rd w (.slice A4 n4 c4) N) (hl : H.length = n3) (hn : N.length = n4) (h40 : n4 ≤ 1000) (hHb : ∀ j, 0 ≤ H.getD j 0 ∧ H.getD j 0 ≤ 18446744073709551615) (hNb : ∀ j, 0 ≤ N.getD j 0 ∧ N.getD j 0 ≤ 18446744073709551615) :
    Calls Try.prog 31 #[imgV (.slice A0 n0 c0) (.slice A1 n1 c1) c t s (.slice A2 n2 c2) (.slice A3 n3 c3) (.slice A4 n4 c4), .int .i64 k] w (Any n3 H N k w) := by
  by_cases hr : k < 0 ∨ 4 ≤ k ∨ n3 ≠ 4
  · refine (a_list_range A0 A1 A2 A3 A4 n0 n1 n2 n3 n4 c0 c1 c2 c3 c4 c t s k hr w).mono ?_
    rintro e w' ⟨he, hb⟩
    have ho : outV n3 H N k = ([], 2) := if_pos hr
    exact ⟨none, 0, 0, by rw [ho]; exact he, hb, by rw [ho]; exact ownq_nil _ _⟩
  · obtain ⟨j, rfl⟩ : ∃ j : Nat, k = j := ⟨k.toNat, by omega⟩
    obtain rfl : n3 = 4 := by omega
    have ho : outV 4 H N j = match lsV N (H.getD j 0 % 65536) with | none => ([], 91) | some o => (o, 0) := if_neg hr
    refine (a_list A0 A1 A2 A3 A4 n0 n1 n2 n4 c0 c1 c2 c3 c4 c t s j (by omega) w H N hH hl hN hn h40 _ rfl (hHb j).1 (hHb j).2 (fun i _ => hNb i)).mono ?_
    rintro e w' ⟨A, n, ca, er, he, hb, hor⟩
    rcases hor with ⟨hR, rfl, rfl, rfl, rfl⟩ | ⟨out, hR, rfl, hq⟩
    · rw [hR] at ho
      exact ⟨none, 0, 0, by rw [ho]; exact he, hb, by rw [ho]; exact ownq_nil _ _⟩
    · rw [hR] at ho
      exact ⟨A, n, ca, by rw [ho]; exact he, hb, by rw [ho]; exact hq⟩
theorem r_any (A0 A1 A2 A3 A4 : Option Addr) (n0 n1 n2 n3 n4 c0 c1 c2 c3 c4 : Nat) (c t s k : Int) (w : World) (H N : List Int) (hH : Rd w (.slice A3 n3 c3) H) (hN : Rd w (.slice A4 n4 c4) N) (hl : H.length = n3) (hn : N.length = n4) (h40 : n4 ≤ 1000) (hHb : ∀ j, 0 ≤ H.getD j 0 ∧ H.getD j 0 ≤ 18446744073709551615) (hNb : ∀ j, 0 ≤ N.getD j 0 ∧ N.getD j 0 ≤ 18446744073709551615) :
    Calls Try.prog 32 #[imgV (.slice A0 n0 c0) (.slice A1 n1 c1) c t s (.slice A2 n2 c2) (.slice A3 n3 c3) (.slice A4 n4 c4), .int .i64 k] w (Any n3 H N k w) := by
  by_cases hr : k < 0 ∨ 4 ≤ k ∨ n3 ≠ 4
  · refine (r_list_range A0 A1 A2 A3 A4 n0 n1 n2 n3 n4 c0 c1 c2 c3 c4 c t s k hr w).mono ?_
    rintro e w' ⟨he, hb⟩
    have ho : outV n3 H N k = ([], 2) := if_pos hr
    exact ⟨none, 0, 0, by rw [ho]; exact he, hb, by rw [ho]; exact ownq_nil _ _⟩
  · obtain ⟨j, rfl⟩ : ∃ j : Nat, k = j := ⟨k.toNat, by omega⟩
    obtain rfl : n3 = 4 := by omega
    have ho : outV 4 H N j = match lsV N (H.getD j 0 % 65536) with | none => ([], 91) | some o => (o, 0) := if_neg hr
    refine (r_list A0 A1 A2 A3 A4 n0 n1 n2 n4 c0 c1 c2 c3 c4 c t s j (by omega) w H N hH hl hN hn h40 _ rfl (hHb j).1 (hHb j).2 (fun i _ => hNb i)).mono ?_
    rintro e w' ⟨A, n, ca, er, he, hb, hor⟩
    rcases hor with ⟨hR, rfl, rfl, rfl, rfl⟩ | ⟨out, hR, rfl, hq⟩
    · rw [hR] at ho
      exact ⟨none, 0, 0, by rw [ho]; exact he, hb, by rw [ho]; exact ownq_nil _ _⟩
    · rw [hR] at ho
      exact ⟨A, n, ca, by rw [ho]; exact he, hb, by rw [ho]; exact hq⟩
theorem box8 {w : World} {g : Nat} {vd vo vl vh vn : Value} {c t s : Int} (h : Mem w g TImg (iBox vd vo vl vh vn c t s)) : w.cell? ⟨g, 0, none⟩ = some vd ∧ w.cell? ⟨g, 1, none⟩ = some vo ∧ w.cell? ⟨g, 2, none⟩ = some (.int .u64 c) ∧ w.cell? ⟨g, 3, none⟩ = some (.int .u64 t) ∧ w.cell? ⟨g, 4, none⟩ = some (.int .u64 s) ∧ w.cell? ⟨g, 5, none⟩ = some vl ∧ w.cell? ⟨g, 6, none⟩ = some vh ∧ w.cell? ⟨g, 7, none⟩ = some vn :=
  ⟨h.cell 0, h.cell 1, h.cell 2, h.cell 3, h.cell 4, h.cell 5, h.cell 6, h.cell 7⟩
/-- An argument's row of words reads as a list. -/
theorem rd_ints {w w' : World} {A : Option Addr} {n c : Nat} {z : List Int} (h : Ints .u64 w A n z) (hb : Below w.heap.size w w') : Rd w' (.slice A n c) z ∧ z.length = n ∧ ∀ j, 0 ≤ z.getD j 0 ∧ z.getD j 0 ≤ 18446744073709551615 := by
  obtain ⟨h1, h2, h3⟩ := h
  refine ⟨⟨A, c, by rw [h1], fun j x hj => ?_⟩, h1, fun j => ?_⟩
  · have hl := (List.getElem?_eq_some_iff.1 hj).1
    obtain ⟨b, off, rfl, hbl, hc⟩ := h3 (by omega)
    refine ⟨b, off, rfl, ?_⟩
    rw [World.cell?_of_block (hb.block b hbl), hc j (by omega)]
    congr 2
    rw [List.getElem?_eq_getElem hl] at hj
    injection hj with hj
    rw [List.getD_eq_getElem?_getD, List.getElem?_eq_getElem hl]
    exact hj
  · by_cases hl : j < z.length
    · rw [List.getD_eq_getElem?_getD, List.getElem?_eq_getElem hl]
      exact bounds_u64 (h2 _ (List.getElem_mem hl))
    · rw [List.getD_eq_getElem?_getD, List.getElem?_eq_none (by omega)]
      exact ⟨by simp, by simp⟩
theorem rd_below {w w' : World} {v : Value} {xs : List Int} (h : Rd w v xs) (hb : Below w.heap.size w w') : Rd w' v xs := by
  obtain ⟨p, cap, rfl, hc⟩ := h
  refine ⟨p, cap, rfl, fun j x hj => ?_⟩
  obtain ⟨g, o, rfl, hx⟩ := hc j x hj
  exact ⟨g, o, rfl, (World.cell?_of_block (hb.block g (World.block_lt_of_cell? _ _ hx))).trans hx⟩

theorem readable : ∀ t ∈ Try.f4.params.toList, Try.prog.readableRec t = true ∧ t < Try.prog.types.size := by
  have h : (Try.f4.params.toList.all fun t => Try.prog.readableRec t && decide (t < Try.prog.types.size)) = true := by kernel_rfl
  intro t ht
  have := List.all_eq_true.1 h t ht
  simpa using this

/-! The walk. -/
theorem walk (w : World) (a0 : Int) (w0 : (Lit.int .i64 a0).wf = true) (a1 : Int) (w1 : (Lit.int .i64 a1).wf = true) (a2 : Int) (w2 : (Lit.int .u64 a2).wf = true) (A3_0 A3_1 A3_2 A3_3 A3_4 : Option Addr) (n3_0 n3_1 n3_2 n3_3 n3_4 c3_0 c3_1 c3_2 c3_3 c3_4 : Nat) (i3_c i3_t i3_s : Int) (z3_3 z3_4 : List Int) (hz3_3 : Ints .u64 w A3_3 n3_3 z3_3) (hz3_4 : Ints .u64 w A3_4 n3_4 z3_4) (a4 : Int) (w4 : (Lit.int .i64 a4).wf = true) :
    Calls Try.prog 4 #[.int .i64 a0, .int .i64 a1, .int .u64 a2, CelI.imgV (.slice A3_0 n3_0 c3_0) (.slice A3_1 n3_1 c3_1) i3_c i3_t i3_s (.slice A3_2 n3_2 c3_2) (.slice A3_3 n3_3 c3_3) (.slice A3_4 n3_4 c3_4), .int .i64 a4] w fun e w' => e = .returned (.bool true) ∧ Kept w w' := by
  have hb2 := bounds_u64 w2
  clear w0 w1 w2 w4
  have BX : Hid (Mem (w.alloc (.cells (iBox (.slice A3_0 n3_0 c3_0) (.slice A3_1 n3_1 c3_1) (.slice A3_2 n3_2 c3_2) (.slice A3_3 n3_3 c3_3) (.slice A3_4 n3_4 c3_4) i3_c i3_t i3_s) TImg)) w.heap.size TImg (iBox (.slice A3_0 n3_0 c3_0) (.slice A3_1 n3_1 c3_1) (.slice A3_2 n3_2 c3_2) (.slice A3_3 n3_3 c3_3) (.slice A3_4 n3_4 c3_4) i3_c i3_t i3_s)) := Lib.hid (Mem.new _ _ _)
  have HB0 := Lib.hid (below_new w (.cells (iBox (.slice A3_0 n3_0 c3_0) (.slice A3_1 n3_1 c3_1) (.slice A3_2 n3_2 c3_2) (.slice A3_3 n3_3 c3_3) (.slice A3_4 n3_4 c3_4) i3_c i3_t i3_s) TImg))
  have HZ3 := Lib.hid hz3_3
  have HZ4 := Lib.hid hz3_4
  clear hz3_3 hz3_4
  by_cases hbig : (10 : Int) < n3_3 ∨ (40 : Int) < n3_4
  · have hAW := FreL.l_awake
    by_cases h1 : (10 : Int) < n3_3
    · go_enter Try.func4, Try.ntmps4
      go_wp2_with (go_at_call 12; refine (hAW _).mono ?_; rintro e w3 ⟨rfl, hb1⟩)
      go_ret
      exact ⟨rfl, .of_below (below_trans2 HB0.out hb1)⟩
    · have h2 : (40 : Int) < n3_4 := by omega
      go_enter Try.func4, Try.ntmps4
      go_wp2_with (go_at_call 12; refine (hAW _).mono ?_; rintro e w3 ⟨rfl, hb1⟩)
      go_ret
      exact ⟨rfl, .of_below (below_trans2 HB0.out hb1)⟩
  · have h1 : decide ((10 : Int) < n3_3) = false := decide_eq_false (by omega)
    have h2 : decide ((40 : Int) < n3_4) = false := decide_eq_false (by omega)
    go_enter Try.func4, Try.ntmps4
    go_upto_region 6 with (first | (go_at_call 14; refine (l_heap _).mono ?_; rintro e w5 ⟨rfl, hb5⟩) | (go_at_call 13; refine (l_startn hq (Lib.hid hq_valid) 1 (by decide) (by decide) _).mono ?_; rintro e w6 ⟨A, lo, hi, b, rb, rfl, hst⟩))
    obtain ⟨bx, hbx⟩ : ∃ bx, w.heap.size = bx := ⟨_, rfl⟩
    obtain ⟨wa, hwa⟩ : ∃ wa, w.alloc (.cells (iBox (.slice A3_0 n3_0 c3_0) (.slice A3_1 n3_1 c3_1) (.slice A3_2 n3_2 c3_2) (.slice A3_3 n3_3 c3_3) (.slice A3_4 n3_4 c3_4) i3_c i3_t i3_s) TImg) = wa := ⟨_, rfl⟩
    rw [hwa] at BX HB0 hb5
    rw [hbx] at BX
    first | rw [hbx] | skip
    have HBX := Lib.hid hbx
    have BX1 := Lib.hid (BX.out.below hb5 BX.out.lt)
    have hbx5 := BX1.out.lt
    have S1 : Hid (Fx w5 lo hi b rb [1, 4, 6, 0] [2, 3, 0, 5, 0, 0] w6) := Lib.hid (fx_begun hst)
    have BX2 := Lib.hid (BX1.out.below S1.out.old BX1.out.lt)
    have hlo := S1.out.lo
    have hle := S1.out.le
    have HB1 := Lib.hid (below_trans2 HB0.out (hb5.trans (S1.out.old.mono hb5.size)))
    clear hwa hbx hb5 hst BX HB0 BX1
    have S2 := Lib.hid (S1.out.alloc (.cells #[.pointer (some ⟨b, 0, none⟩), .pointer (some ⟨rb, 0, none⟩)] TP))
    have HP2 := Lib.hid (Mem.new w6 TP #[.pointer (some ⟨b, 0, none⟩), .pointer (some ⟨rb, 0, none⟩)])
    have BX3 := Lib.hid (BX2.out.alloc (.cells #[.pointer (some ⟨b, 0, none⟩), .pointer (some ⟨rb, 0, none⟩)] TP))
    have HB2 := Lib.hid (HB1.out.trans ((below_new w6 (.cells #[.pointer (some ⟨b, 0, none⟩), .pointer (some ⟨rb, 0, none⟩)] TP)).mono HB1.out.size))
    have hgt := S1.out.top
    obtain ⟨gp, hgp⟩ : ∃ gp, w6.heap.size = gp := ⟨_, rfl⟩
    rw [hgp] at HP2 hgt
    first | rw [hgp] | skip
    obtain ⟨W2, hW⟩ : ∃ W', w6.alloc (.cells #[.pointer (some ⟨b, 0, none⟩), .pointer (some ⟨rb, 0, none⟩)] TP) = W' := ⟨_, rfl⟩
    rw [hW] at S2 HP2 BX3 HB2
    first | rw [hW] | skip
    clear hW hgp S1 BX2 HB1
    have p0 := HP2.out.cell 0
    simp at p0
    go_upto_region 7 with (go_at_call 30; refine (f_image S2.out).mono ?_; rintro e w7 ⟨i1, i2, i3, i4, i5, m1, m2, m3, k1, k2, k3', k4, k5, c, t, s, rfl, o4, o5, hS, hT⟩)
    have BX4 := Lib.hid ((Mem.of_eq BX3.out (hT.block bx BX3.out.lt (.inl (by omega)))).alloc (.cells (iBox (.slice i1 m1 k1) (.slice i2 m2 k2) (.slice i3 m3 k3') (.slice i4 4 k4) (.slice i5 6 k5) c t s) TImg))
    have hBlo : w.heap.size ≤ lo := by rw [HBX.out]; omega
    have HB4 := Lib.hid ((HB2.out.trans (hT.below (B := w.heap.size) hBlo HB2.out.size)).alloc (Nat.le_trans HB2.out.size hT.size) (.cells (iBox (.slice i1 m1 k1) (.slice i2 m2 k2) (.slice i3 m3 k3') (.slice i4 4 k4) (.slice i5 6 k5) c t s) TImg))
    have HX4 : Hid (Mem (w7.alloc (.cells (iBox (.slice i1 m1 k1) (.slice i2 m2 k2) (.slice i3 m3 k3') (.slice i4 4 k4) (.slice i5 6 k5) c t s) TImg)) w7.heap.size TImg (iBox (.slice i1 m1 k1) (.slice i2 m2 k2) (.slice i3 m3 k3') (.slice i4 4 k4) (.slice i5 6 k5) c t s)) := Lib.hid (Mem.new w7 TImg (iBox (.slice i1 m1 k1) (.slice i2 m2 k2) (.slice i3 m3 k3') (.slice i4 4 k4) (.slice i5 6 k5) c t s))
    have O4 := Lib.hid (own_of_block (w' := w7.alloc (.cells (iBox (.slice i1 m1 k1) (.slice i2 m2 k2) (.slice i3 m3 k3') (.slice i4 4 k4) (.slice i5 6 k5) c t s) TImg)) o4 fun g hg => (below_new w7 (.cells (iBox (.slice i1 m1 k1) (.slice i2 m2 k2) (.slice i3 m3 k3') (.slice i4 4 k4) (.slice i5 6 k5) c t s) TImg)).block g (o4.lt g hg).2)
    have O5 := Lib.hid (own_of_block (w' := w7.alloc (.cells (iBox (.slice i1 m1 k1) (.slice i2 m2 k2) (.slice i3 m3 k3') (.slice i4 4 k4) (.slice i5 6 k5) c t s) TImg)) o5 fun g hg => (below_new w7 (.cells (iBox (.slice i1 m1 k1) (.slice i2 m2 k2) (.slice i3 m3 k3') (.slice i4 4 k4) (.slice i5 6 k5) c t s) TImg)).block g (o5.lt g hg).2)
    have hgx2 : gp < W2.heap.size := HP2.out.lt
    have hsz : W2.heap.size ≤ w7.heap.size := hT.size
    obtain ⟨gx, hgx⟩ : ∃ gx, w7.heap.size = gx := ⟨_, rfl⟩
    rw [hgx] at HX4 hsz
    first | rw [hgx] | skip
    obtain ⟨W3, hW⟩ : ∃ W', w7.alloc (.cells (iBox (.slice i1 m1 k1) (.slice i2 m2 k2) (.slice i3 m3 k3') (.slice i4 4 k4) (.slice i5 6 k5) c t s) TImg) = W' := ⟨_, rfl⟩
    rw [hW] at BX4 HB4 HX4 O4 O5
    first | rw [hW] | skip
    clear hW hgx hS hT o4 o5 S2 HP2 BX3 HB2 p0
    obtain ⟨B2, hB2⟩ : ∃ B2, W2.heap.size = B2 := ⟨_, rfl⟩
    rw [hB2] at O4 O5 hsz hgx2
    clear hB2
    have x6 := HX4.out.cell 6
    have x7 := HX4.out.cell 7
    simp at x6 x7
    go_upto_region 9 with (fail)
    go_upto_if 56 with fail
    obtain ⟨g4, rfl, hB4, hl4, hcl4, hfz4⟩ := own_form O4.out (by decide)
    obtain ⟨g5, rfl, hB5, hl5, hcl6, hfz6⟩ := own_form O5.out (by decide)
    have h45 : g4 ≠ g5 := by
      rintro rfl
      have e1 := hcl4 0 (by decide)
      rw [hcl6 0 (by decide)] at e1
      exact absurd e1 (by simp)
    have hgxB : gx ≠ g4 ∧ gx ≠ g5 := by
      constructor
      · rintro rfl
        exact absurd ((hcl4 0 (by decide)).symm.trans (HX4.out.cell 0)) (by simp)
      · rintro rfl
        exact absurd ((hcl6 0 (by decide)).symm.trans (HX4.out.cell 0)) (by simp)
    have hbxB : bx < B2 := by omega
    have hwB : w.heap.size = bx := HBX.out
    obtain ⟨r, hr⟩ : ∃ r, a4.tmod 3 = r := ⟨_, rfl⟩
    have hv9 : a2.tmod 9 = a2 % 9 := Int.tmod_eq_emod_of_nonneg (by omega)
    have hvb : 0 ≤ a2 % 9 ∧ a2 % 9 ≤ 18446744073709551615 := by omega
    obtain ⟨v9, h9⟩ : ∃ v9, a2 % 9 = v9 := ⟨_, rfl⟩
    rw [h9] at hv9 hvb
    have hn0 : ∀ i : Nat, 0 ≤ ([2, 3, 0, 5, 0, 0] : List Int).getD i 0 ∧ ([2, 3, 0, 5, 0, 0] : List Int).getD i 0 ≤ 18446744073709551615 := fun j => by (match j with | 0 => decide | 1 => decide | 2 => decide | 3 => decide | 4 => decide | 5 => decide | n + 6 => simp)
    have hgxl := HX4.out.lt
    go_cut [13] (fun sv wc => sv = .pointer (some ⟨gx, 0, none⟩) ∧ ∃ H N : List Int, H.length = 4 ∧ N.length = 6 ∧ (∀ j, 0 ≤ H.getD j 0 ∧ H.getD j 0 ≤ 18446744073709551615) ∧ (∀ j, 0 ≤ N.getD j 0 ∧ N.getD j 0 ≤ 18446744073709551615) ∧ Hid (OwnU wc B2 (.slice (some ⟨g4, 0, none⟩) 4 k4) H) ∧ Hid (OwnU wc B2 (.slice (some ⟨g5, 0, none⟩) 6 k5) N) ∧ Hid (Mem wc gx TImg (iBox (.slice i1 m1 k1) (.slice i2 m2 k2) (.slice i3 m3 k3') (.slice (some ⟨g4, 0, none⟩) 4 k4) (.slice (some ⟨g5, 0, none⟩) 6 k5) c t s)) ∧ Hid (Mem wc bx TImg (iBox (.slice A3_0 n3_0 c3_0) (.slice A3_1 n3_1 c3_1) (.slice A3_2 n3_2 c3_2) (.slice A3_3 n3_3 c3_3) (.slice A3_4 n3_4 c3_4) i3_c i3_t i3_s)) ∧ Hid (Below w.heap.size w wc) ∧ g4 < wc.heap.size ∧ g5 < wc.heap.size ∧ gx < wc.heap.size)
    case first =>
      by_cases hp : 0 < r
      · have hd : decide (0 < r) = true := decide_eq_true hp
        obtain ⟨j, hj⟩ : ∃ j : Nat, pl a1 6 = j := ⟨(pl a1 6).toNat, by have := pl_in a1 6 (by decide) (by decide); omega⟩
        have hj6 : (j : Int) < 6 := by have := pl_in a1 6 (by decide) (by decide); omega
        have hpl := k_place a1 6 j (by decide) (by decide) hj
        have cj : W3.drew.cell? ⟨g5, j, none⟩ = some (.int .u64 _) := hcl6 j (by show j < 6; omega)
        have fj : W3.drew.frozen? ⟨g5, j, none⟩ = false := hfz6 j
        have hs0 : (fun W : World => W.cell? ⟨gx, 7, none⟩ = some (.slice (some ⟨g5, 0, none⟩) 6 k5)) W3.drew := x7
        have hs1 : (fun W : World => W.cell? ⟨gx, 7, none⟩ = some (.slice (some ⟨g5, 0, none⟩) 6 k5)) (W3.setCell ⟨g5, j, none⟩ (.int .u64 v9)).drew := ((HX4.out.far (a := ⟨g5, j, none⟩) (by show gx ≠ g5; omega) (.int .u64 v9)).drewN 1).cell 7
        go_upto_region 10 with (fail)
        go_region_held3 (fun W : World => W.cell? ⟨gx, 7, none⟩ = some (.slice (some ⟨g5, 0, none⟩) 6 k5)) (first | (with_reducible exact hs0) | (with_reducible exact hs1) | (with_reducible assumption)) (first | (go_at_call 15; (with_reducible refine (hpl _).mono ?_); rintro e w8 ⟨rfl, rfl⟩))
        go_wp2_with fail
        all_goals go_meet
        all_goals exact ⟨rfl, [1, 4, 6, 0], ([2, 3, 0, 5, 0, 0] : List Int).set j v9, rfl, by rw [List.length_set]; rfl, fun j => by (match j with | 0 => decide | 1 => decide | 2 => decide | 3 => decide | n + 4 => simp), fun i => by rw [getD_set]; split; (exact hvb); (exact hn0 i), Lib.hid (own_drewN (own_apart O4.out (by omega) j _) 1), Lib.hid (own_drewN (CelC.own_set O5.out j v9) 1), Lib.hid ((HX4.out.far (a := ⟨g5, j, none⟩) (by show gx ≠ g5; omega) _).drewN 1), Lib.hid ((BX4.out.far (a := ⟨g5, j, none⟩) (by show bx ≠ g5; omega) _).drewN 1), Lib.hid (below_drewN (HB4.out.setCell (by show w.heap.size ≤ g5; omega) _) 1), by simpa [World.setCell] using hl4, by simpa [World.setCell] using hl5, by simpa [World.setCell] using hgxl⟩
      · have hd : decide (0 < r) = false := decide_eq_false hp
        go_wp2_with fail
        all_goals go_meet
        all_goals exact ⟨rfl, [1, 4, 6, 0], _, rfl, rfl, fun j => by (match j with | 0 => decide | 1 => decide | 2 => decide | 3 => decide | n + 4 => simp), hn0, O4, O5, HX4, BX4, HB4, hl4, hl5, hgxl⟩
    case rest =>
      clear O4 O5 HX4 BX4 HB4 hl4 hl5 hgxl hcl4 hcl6 hfz4 hfz6 x6 x7 hn0 hvb hv9 h9
      obtain ⟨rfl, H, N, hH4, hN6, hHb, hNb, O4, O5, HX4, BX4, HB4, hl4, hl5, hgxl⟩ := hcut
      have x6 := HX4.out.cell 6
      have x7 := HX4.out.cell 7
      simp at x6 x7
      obtain ⟨g4', e4, _, _, hcl4, hfz4⟩ := own_form O4.out (by omega)
      obtain rfl : g4 = g4' := by injection e4 with e4; injection e4
      clear e4
      go_upto_if 66 with fail
      go_cut [13] (fun sv wd => sv = .pointer (some ⟨gx, 0, none⟩) ∧ ∃ H N : List Int, H.length = 4 ∧ N.length = 6 ∧ (∀ j, 0 ≤ H.getD j 0 ∧ H.getD j 0 ≤ 18446744073709551615) ∧ (∀ j, 0 ≤ N.getD j 0 ∧ N.getD j 0 ≤ 18446744073709551615) ∧ Hid (OwnU wd B2 (.slice (some ⟨g4, 0, none⟩) 4 k4) H) ∧ Hid (OwnU wd B2 (.slice (some ⟨g5, 0, none⟩) 6 k5) N) ∧ Hid (Mem wd gx TImg (iBox (.slice i1 m1 k1) (.slice i2 m2 k2) (.slice i3 m3 k3') (.slice (some ⟨g4, 0, none⟩) 4 k4) (.slice (some ⟨g5, 0, none⟩) 6 k5) c t s)) ∧ Hid (Mem wd bx TImg (iBox (.slice A3_0 n3_0 c3_0) (.slice A3_1 n3_1 c3_1) (.slice A3_2 n3_2 c3_2) (.slice A3_3 n3_3 c3_3) (.slice A3_4 n3_4 c3_4) i3_c i3_t i3_s)) ∧ Hid (Below w.heap.size w wd))
      case first =>
        by_cases hp : 1 < r
        · have hd : decide (1 < r) = true := decide_eq_true hp
          obtain ⟨q6, hq6⟩ : ∃ q6, IntKind.i64.wrap (a1.tdiv 6) = q6 := ⟨_, rfl⟩
          obtain ⟨j, hj⟩ : ∃ j : Nat, pl q6 4 = j := ⟨(pl q6 4).toNat, by have := pl_in q6 4 (by decide) (by decide); omega⟩
          have hj6 : (j : Int) < 4 := by have := pl_in q6 4 (by decide) (by decide); omega
          have hpl := k_place q6 4 j (by decide) (by decide) hj
          have cj : wc.drew.cell? ⟨g4, j, none⟩ = some (.int .u64 _) := hcl4 j (by omega)
          have fj : wc.drew.frozen? ⟨g4, j, none⟩ = false := hfz4 j
          have hs0 : (fun W : World => W.cell? ⟨gx, 6, none⟩ = some (.slice (some ⟨g4, 0, none⟩) 4 k4)) wc.drew := x6
          have hs1 : (fun W : World => W.cell? ⟨gx, 6, none⟩ = some (.slice (some ⟨g4, 0, none⟩) 4 k4)) (wc.setCell ⟨g4, j, none⟩ (.int .u64 a2)).drew := ((HX4.out.far (a := ⟨g4, j, none⟩) (by show gx ≠ g4; omega) (.int .u64 a2)).drewN 1).cell 6
          go_upto_region 12 with (fail)
          go_region_held3 (fun W : World => W.cell? ⟨gx, 6, none⟩ = some (.slice (some ⟨g4, 0, none⟩) 4 k4)) (first | (with_reducible exact hs0) | (with_reducible exact hs1) | (with_reducible assumption)) (first | (go_at_call 15; (with_reducible refine (hpl _).mono ?_); rintro e w8 ⟨rfl, rfl⟩))
          go_wp2_with fail
          all_goals go_meet
          all_goals exact ⟨rfl, H.set j a2, N, by rw [List.length_set]; exact hH4, hN6, fun i => by rw [getD_set]; split; (exact hb2); (exact hHb i), hNb, Lib.hid (own_drewN (CelC.own_set O4.out j a2) 1), Lib.hid (own_drewN (own_apart O5.out (by omega) j _) 1), Lib.hid ((HX4.out.far (a := ⟨g4, j, none⟩) (by show gx ≠ g4; omega) _).drewN 1), Lib.hid ((BX4.out.far (a := ⟨g4, j, none⟩) (by show bx ≠ g4; omega) _).drewN 1), Lib.hid (below_drewN (HB4.out.setCell (by show w.heap.size ≤ g4; omega) _) 1)⟩
        · have hd : decide (1 < r) = false := decide_eq_false hp
          go_wp2_with fail
          all_goals go_meet
          all_goals exact ⟨rfl, H, N, hH4, hN6, hHb, hNb, O4, O5, HX4, BX4, HB4⟩
      case rest =>
        clear O4 O5 HX4 BX4 HB4 hl4 hl5 hgxl hcl4 hfz4 x6 x7 hH4 hN6 hHb hNb
        obtain ⟨rfl, H', N', hH4, hN6, hHb, hNb, O4, O5, HX4, BX4, HB4⟩ := hcut
        rename_i H0 N0
        obtain ⟨pk, hpk⟩ : ∃ pk, pl a0 6 = pk := ⟨_, rfl⟩
        have hpk6 := pl_in a0 6 (by decide) (by decide)
        rw [hpk] at hpk6
        have hpl := k_place a0 6 pk (by decide) (by decide) hpk
        have hwk : IntKind.i64.wrap (pk - 1) = pk - 1 := IntWalk.i64_in _ (by omega)
        go_upto_region 14 with (go_at_call 15; (with_reducible refine (hpl _).mono ?_); rintro e w9 ⟨rfl, rfl⟩)
        clear hpl hwk hpk hpk6
        obtain ⟨k0, hk0⟩ : ∃ k0, pk - 1 = k0 := ⟨_, rfl⟩
        first | rw [hk0] | skip
        clear hk0
        have hR4 := Lib.hid (rd_own O4.out)
        have hR5 := Lib.hid (rd_own O5.out)
        obtain ⟨r3, l3, b3⟩ := rd_ints (c := c3_3) HZ3.out HB4.out
        obtain ⟨r4, l4, b4⟩ := rd_ints (c := c3_4) HZ4.out HB4.out
        have hR3 := Lib.hid r3
        have hRN := Lib.hid r4
        have l43 := Lib.hid l3
        have l44 := Lib.hid l4
        have hb3 := Lib.hid b3
        have hb4 := Lib.hid b4
        clear r3 r4 l3 l4 b3 b4 O4 O5 HZ3 HZ4
        obtain ⟨d0, d1, d2, d3, d4, d5, d6, d7⟩ := box8 HX4.out
        have hc1 := a_any i1 i2 i3 (some ⟨g4, 0, none⟩) (some ⟨g5, 0, none⟩) m1 m2 m3 4 6 k1 k2 k3' k4 k5 c t s k0 wc H' N' hR4.out hR5.out hH4 hN6 (by decide) hHb hNb
        go_upto_region 15 with (go_at_call 31; refine hc1.mono ?_; rintro e y1 ⟨P1, p1, q1, rfl, hy1, hq1⟩)
        clear hc1 d0 d1 d2 d3 d4 d5 d6 d7
        have X1 := HX4
        have V1 := BX4
        have HBy1 := HB4
        have HBw2 : Below wc.heap.size wc y1 := hy1
        have X2 := Lib.hid (X1.out.below hy1 X1.out.lt)
        have V2 := Lib.hid (V1.out.below hy1 V1.out.lt)
        have HBy2 := Lib.hid (HBy1.out.trans (hy1.mono HBy1.out.size))
        obtain ⟨d0, d1, d2, d3, d4, d5, d6, d7⟩ := box8 X2.out
        have hc2 := r_any i1 i2 i3 (some ⟨g4, 0, none⟩) (some ⟨g5, 0, none⟩) m1 m2 m3 4 6 k1 k2 k3' k4 k5 c t s k0 y1 H' N' (rd_below hR4.out HBw2) (rd_below hR5.out HBw2) hH4 hN6 (by decide) hHb hNb
        go_upto_region 16 with (go_at_call 32; refine hc2.mono ?_; rintro e y2 ⟨P2, p2, q2, rfl, hy2, hq2⟩)
        clear hc2 d0 d1 d2 d3 d4 d5 d6 d7
        have HBw3 : Below wc.heap.size wc y2 := HBw2.trans (hy2.mono HBw2.size)
        have X3 := Lib.hid (X2.out.below hy2 X2.out.lt)
        have V3 := Lib.hid (V2.out.below hy2 V2.out.lt)
        have HBy3 := Lib.hid (HBy2.out.trans (hy2.mono HBy2.out.size))
        obtain ⟨d0, d1, d2, d3, d4, d5, d6, d7⟩ := box8 V3.out
        have hc3 := a_any A3_0 A3_1 A3_2 A3_3 A3_4 n3_0 n3_1 n3_2 n3_3 n3_4 c3_0 c3_1 c3_2 c3_3 c3_4 i3_c i3_t i3_s k0 y2 z3_3 z3_4 (rd_below hR3.out HBw3) (rd_below hRN.out HBw3) l43.out l44.out (by omega) hb3.out hb4.out
        go_upto_region 17 with (go_at_call 31; refine hc3.mono ?_; rintro e y3 ⟨P3, p3, q3, rfl, hy3, hq3⟩)
        clear hc3 d0 d1 d2 d3 d4 d5 d6 d7
        have HBw4 : Below wc.heap.size wc y3 := HBw3.trans (hy3.mono HBw3.size)
        have X4 := Lib.hid (X3.out.below hy3 X3.out.lt)
        have V4 := Lib.hid (V3.out.below hy3 V3.out.lt)
        have HBy4 := Lib.hid (HBy3.out.trans (hy3.mono HBy3.out.size))
        obtain ⟨d0, d1, d2, d3, d4, d5, d6, d7⟩ := box8 V4.out
        have hc4 := r_any A3_0 A3_1 A3_2 A3_3 A3_4 n3_0 n3_1 n3_2 n3_3 n3_4 c3_0 c3_1 c3_2 c3_3 c3_4 i3_c i3_t i3_s k0 y3 z3_3 z3_4 (rd_below hR3.out HBw4) (rd_below hRN.out HBw4) l43.out l44.out (by omega) hb3.out hb4.out
        go_upto_region 18 with (go_at_call 32; refine hc4.mono ?_; rintro e y4 ⟨P4, p4, q4, rfl, hy4, hq4⟩)
        clear hc4 d0 d1 d2 d3 d4 d5 d6 d7
        have HBy5 := Lib.hid (HBy4.out.trans (hy4.mono HBy4.out.size))
        have hb24 : Below y2.heap.size y2 y4 := hy3.trans (hy4.mono hy3.size)
        have hb14 : Below y1.heap.size y1 y4 := hy2.trans (hb24.mono hy2.size)
        have e1 : (outV 4 H' N' k0).1.length ≤ 1000 := by have := out_len 4 H' N' k0; omega
        have e2 : (outV n3_3 z3_3 z3_4 k0).1.length ≤ 1000 := by have := out_len n3_3 z3_3 z3_4 k0; have := l44.out; omega
        have hk1 := FreI.k_ints y4 _ _ _ (rdi_of hq1 hb14) (rdi_of hq2 hb24) e1
        have hk2 : ∀ nd, Calls Try.prog 33 #[.slice P3 p3 q3, .slice P4 p4 q4] (y4.drewN nd) fun e w' => e = .returned (.bool true) ∧ FreI.Ws (y4.drewN nd) w' := fun nd => FreI.k_ints _ _ _ _ (rdi_of hq3 (below_drewN hy4 nd)) (rdi_of hq4 (below_drewN (Below.refl _ y4) nd)) e2
        obtain ⟨r1, hr1⟩ : ∃ r1, (outV 4 H' N' k0).2 = r1 := ⟨_, rfl⟩
        obtain ⟨r2, hr2⟩ : ∃ r2, (outV n3_3 z3_3 z3_4 k0).2 = r2 := ⟨_, rfl⟩
        first | rw [hr1] | skip
        first | rw [hr2] | skip
        clear hr1 hr2 e1 e2 hq1 hq2 hq3 hq4 hy1 hy2 hy3 hy4 hb24 hb14 hR4 hR5 hR3 hRN l43 l44 hb3 hb4 X1 X2 X3 X4 V1 V2 V3 V4 HBw2 HBw3 HBw4 HX4 BX4 HB4 hHb hNb hH4 hN6
        have hAW := FreL.l_awake
        go_wp2_with (first
          | (go_at_call 33; (with_reducible refine hk1.mono ?_); rintro e z1 ⟨rfl, nd1, rfl⟩)
          | (go_at_call 33; (with_reducible refine (hk2 _).mono ?_); rintro e z2 ⟨rfl, nd2, rfl⟩)
          | (go_at_call 12; (with_reducible refine (hAW _).mono ?_); rintro e z3 ⟨rfl, hz⟩))
        have HBF := Lib.hid (below_trans2 (below_drewN HBy5.out (nd1 + nd2)) hz)
        clear hz
        go_ret
        exact ⟨rfl, .of_below HBF.out⟩

/-! The row's step. -/
set_option maxRecDepth 100000 in
theorem lifted (os : Os) (started : os.Started) (H : Type) (enc : TypeId × Value → H) :
    ReturnsInHanded {} Try.checked os 4 .any (Rows.freelistListsSpec.pre6 enc Try.prog Try.f4 Rows.freelistListsRow.domain false) (Rows.freelistListsSpec.post enc Try.prog Try.f4 false true false false) := by
  refine returnsInHanded_of_change (C := Try.checked) own started (by kernel_rfl) Try.func4
    (ChangeSpec.witness6 (enc := enc) (C := Try.checked) false ⟨#[], #[.int .i64 0, .int .i64 0, .int .u64 0, .agg #[.slice none 0 0, .slice none 0 0, .int .u64 0, .int .u64 0, .int .u64 0, .slice none 0 0, .slice none 0 0, .slice none 0 0], .int .i64 0], []⟩ 8 (by kernel_rfl) (by kernel_rfl) (by kernel_rfl) (by kernel_rfl)) ?_
  intro W base args ds gs before hval0 hW hcnd _
  have hval : ∀ (j : Nat) t v, Try.f4.params[j]? = some t → args[j]? = some v → Value.okWide Try.prog W .any base t v := hval0
  have hW' := hW
  obtain ⟨p, q, hA0, hV, rfl, hfz, hnd⟩ := hW
  have hA : DataW.TrodAll enc Try.prog W 0 (fun _ => true) true Try.f4.params.toList args.toList ds p := hA0
  rw [Try.params4] at hA hval
  obtain ⟨v0, vs0, d0, ds0, p0, q0, hargs, rfl, rfl, h0, r0⟩ := trodAll_cons hA
  obtain ⟨v1, vs1, d1, ds1, p1, q1, rfl, rfl, rfl, h1, r1⟩ := trodAll_cons r0
  obtain ⟨v2, vs2, d2, ds2, p2, q2, rfl, rfl, rfl, h2, r2⟩ := trodAll_cons r1
  obtain ⟨v3, vs3, d3, ds3, p3, q3, rfl, rfl, rfl, h3, r3⟩ := trodAll_cons r2
  obtain ⟨v4, vs4, d4, ds4, p4, q4, rfl, rfl, rfl, h4, r4⟩ := trodAll_cons r3
  obtain ⟨rfl, rfl, rfl⟩ := trodAll_nil r4
  obtain rfl : args = #[v0, v1, v2, v3, v4] := by cases args; simp_all
  obtain ⟨rfl, rfl⟩ := trodVars_none hV
  have hk : ∀ W', Kept W W' → Rows.freelistListsSpec.post enc Try.prog Try.f4 false true false false W #[v0, v1, v2, v3, v4] (.bool true) W' := fun W' hb =>
    post_law laidOut readable rfl Try.underlying4 rfl hW' rfl hb
  clear hA0 hval0 hA hW'
  obtain ⟨a0, rfl, rfl, rfl, w0⟩ := open_int Try.underlying3 (hval 0 3 v0 rfl rfl) h0
  obtain ⟨a1, rfl, rfl, rfl, w1⟩ := open_int Try.underlying3 (hval 1 3 v1 rfl rfl) h1
  obtain ⟨a2, rfl, rfl, rfl, w2⟩ := open_int Try.underlying48 (hval 2 48 v2 rfl rfl) h2
  obtain ⟨A3_0, A3_1, A3_2, A3_3, A3_4, n3_0, n3_1, n3_2, n3_3, n3_4, c3_0, c3_1, c3_2, c3_3, c3_4, i3_c, i3_t, i3_s, z3_3, z3_4, rfl, hz3_3, hz3_4⟩ := FreO.open_img (hval 3 61 v3 rfl rfl) h3
  obtain ⟨a4, rfl, rfl, rfl, w4⟩ := open_int Try.underlying3 (hval 4 3 v4 rfl rfl) h4
  refine (walk W a0 w0 a1 w1 a2 w2 A3_0 A3_1 A3_2 A3_3 A3_4 n3_0 n3_1 n3_2 n3_3 n3_4 c3_0 c3_1 c3_2 c3_3 c3_4 i3_c i3_t i3_s z3_3 z3_4 hz3_3 hz3_4 a4 w4).mono fun e W' ⟨he, hg⟩ => ?_
  subst he
  exact ⟨_, rfl, hk W' hg⟩

theorem over : Rows.freelistListsRow.holds Try.pinned (OpenSpec.ofChange Rows.freelistListsSpec) :=
  OpenClaim.holds_of_wide 4 Try.f4 rfl rfl rfl rfl rfl rfl rfl ⟨rfl, rfl, rfl, rfl, rfl⟩ rfl rfl rfl rfl rfl (by kernel_rfl) Try.func4 (by kernel_rfl)
    (of_decide_eq_true (by kernel_rfl)) (by unfold Func.isWrapper; first | (rw [if_pos (by decide +kernel)]; kernel_rfl) | (rw [if_neg (by decide +kernel)]; exact ⟨rfl, rfl⟩))
    (fun os started H enc _ => lifted os started H enc)

/-- The statement. -/
theorem proved : Rows.FreelistListsSaid :=
  over
#print axioms proved
end Go.Proofs.Ytpnkjdamgkaonaa.freelistLists
