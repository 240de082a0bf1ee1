/-
  Proved: a machine that has finished does nothing, and one thread alone never waits. No condition.
-/
import Derived.Test.YthgbfghhiadjpaaRows
import Derived.WalkKit
import Derived.ProofKit
import Derived.OpenShut
import Derived.Test.YthgbfghhiadjpaaFrame
import Derived.Test.YthgbfghhiadjpaaEpoL
import Derived.Test.YthgbfghhiadjpaaLayO
import Derived.Test.YthgbfghhiadjpaaEpoI
import Derived.Deep.RegionHeld3
import Derived.Deep.DeepCutAuto
namespace Go.Proofs.Ythgbfghhiadjpaa.epochIdle
open Go.ChangeShapes Go.WideShapes Go.ChangeAt Go.RowKit
open LawFrame
open Go.ChangeMaps (open_string)
set_option linter.unusedVariables false

theorem own : ownKnob Try.prog.godebug = none := by kernel_rfl
theorem laidOut : laidOutB Try.prog = true := by kernel_rfl

open PlainT BlkW LayS LayA LayH LayK LayO LayP CelS CelM CelP CelV CelN CelO CelI CelF CelB LabD LabR LabP LabS WordC EpoA EpoF EpoS EpoI CelY CelQ CelT
set_option maxHeartbeats 4000000
set_option maxRecDepth 100000
/-- The snapshot, the slots and the box of a machine that has entered i steps far. -/
def sn (c : Int) (i : Nat) : Int := if i ≤ 1 then -1 else c
def sl (t : Nat) (c : Int) (i : Nat) : List Int := if i = 0 then [0, 0, 0, 0] else if i ≤ 2 then [0, 0, 0, 0].set t 1 else [0, 0, 0, 0].set t (c + 2)
theorem sl_len (t : Nat) (c : Int) (i : Nat) : (sl t c i).length = 4 := by
  unfold sl
  split
  · rfl
  · split <;> simp
theorem sl_no {t k : Nat} (h : k ≠ t) (c : Int) (i : Nat) : (sl t c i).getD k 0 = 0 := by
  have hz : ([0, 0, 0, 0] : List Int).getD k 0 = 0 := by
    match k with
    | 0 | 1 | 2 | 3 => rfl
    | n + 4 => rfl
  unfold sl
  split
  · exact hz
  · split <;> rw [List.getD_eq_getElem?_getD, List.getElem?_set_ne (Ne.symm h), ← List.getD_eq_getElem?_getD, hz]
theorem sl_one {t : Nat} (ht : t < 4) (c : Int) {i : Nat} (h : i < 2) : (sl t c (i + 1)).getD t 0 = 1 := by
  unfold sl
  rw [if_neg (by omega), if_pos (by omega), List.getD_eq_getElem?_getD, List.getElem?_set_self (by simpa using ht)]
  rfl
theorem sl_last {t : Nat} (ht : t < 4) (c : Int) : (sl t c 3).getD t 0 = c + 2 := by
  unfold sl
  rw [if_neg (by omega), if_neg (by omega), List.getD_eq_getElem?_getD, List.getElem?_set_self (by simpa using ht)]
  rfl
theorem el_step {w0 w : World} {lo hi b rb g : Nat} {q : Cfg} {c : Int} (t : Nat) (ht : t < 4) (i : Nat) (hi3 : i < 3) (h0 : 0 ≤ c) (h1 : c ≤ 1099511627776) (hg : g < lo ∨ hi ≤ g) (hgw : w0.heap.size ≤ g) (S : Sl w0 lo hi b rb q c (sl t c i) w) (M : Mem w g 123 #[.int .i64 i, .int .i64 t, .int .i64 (sn c i)]) :
    Calls Try.prog 41 #[.pointer (some ⟨g, 0, none⟩), .pointer (some ⟨b, 0, none⟩)] w fun e w' => (∃ v, e = .returned v) ∧ Sl w0 lo hi b rb q c (sl t c (i + 1)) w' ∧ Mem w' g 123 #[.int .i64 ((i + 1 : Nat) : Int), .int .i64 t, .int .i64 (sn c (i + 1))] ∧ Fr (PG lo hi g) w w' := by
  have : i = 0 ∨ i = 1 ∨ i = 2 := by omega
  rcases this with rfl | rfl | rfl
  · refine (l_e0 S hg hgw (-1) t (by simpa [sl] using ht) _ rfl M).mono ?_
    rintro e w' ⟨he, hS, hM, hF⟩
    exact ⟨⟨_, he⟩, hS, hM, hF⟩
  · refine (l_e1 S hg hgw t (-1) h0 h1 M).mono ?_
    rintro e w' ⟨he, hS, hM, hF⟩
    exact ⟨⟨_, he⟩, hS, hM, hF⟩
  · refine (l_e2 S hg hgw t (by rw [sl_len]; exact ht) _ rfl c h0 h1 M).mono ?_
    rintro e w' ⟨he, hS, hM, hF⟩
    refine ⟨⟨_, he⟩, ?_, hM, hF⟩
    have e2 : (sl t c 2).set t (c + 2) = sl t c 3 := by
      show ([0, 0, 0, 0].set t 1).set t (c + 2) = _
      rw [List.set_set]
      rfl
    rwa [e2] at hS
/-- What the last region holds. -/
structure H15 (w0 : World) (lo m1 hi b rb gp gf ga g1 g2 gi : Nat) (A : Int → List Int) (c k s : Int) (vd vo vl vh vn : Value) (w : World) : Prop where
  is : Is lo m1 w b A
  mp : Mem w gp TP #[.pointer (some ⟨b, 0, none⟩), .pointer (some ⟨rb, 0, none⟩)]
  mf : Mem w gf 129 #[.int .i64 2, .int .i64 0, .int .i64 1, .int .i64 1, .int .i64 c]
  ma : Mem w ga 57 #[.int .i64 1, .int .i64 3, .int .i64 0, .int .u64 c, .int .u64 c, .bool true]
  z1 : Mem w g1 57 #[.int .i64 0, .int .i64 0, .int .i64 0, .int .u64 0, .int .u64 0, .bool false]
  z2 : Mem w g2 57 #[.int .i64 0, .int .i64 0, .int .i64 0, .int .u64 0, .int .u64 0, .bool false]
  mi : Mem w gi 44 #[vd, vo, .int .u64 c, .int .u64 k, .int .u64 s, vl, vh, vn]
  od : OwnU w m1 vd (A 1)
  oo : OwnU w m1 vo (A 2)
  ol : OwnU w m1 vl (A 6)
  oh : OwnU w m1 vh (A 7)
  on : OwnU w m1 vn (A 8)
  old : Below w0.heap.size w0 w
  st : w0.heap.size ≤ lo ∧ lo ≤ m1 ∧ m1 ≤ gp ∧ m1 ≤ gf ∧ m1 ≤ ga ∧ m1 ≤ g1 ∧ m1 ≤ g2 ∧ m1 ≤ gi
abbrev S15 (w0 : World) (lo m1 hi b rb gp gf ga g1 g2 gi : Nat) (A : Int → List Int) (c k s : Int) (vd vo vl vh vn : Value) (w : World) : Prop :=
  w.cell? ⟨gp, 0, none⟩ = some (.pointer (some ⟨b, 0, none⟩)) ∧ w.cell? ⟨ga, 0, none⟩ = some (.int .i64 1) ∧ w.cell? ⟨ga, 3, none⟩ = some (.int .u64 c) ∧
  w.cell? ⟨g1, 0, none⟩ = some (.int .i64 0) ∧ w.cell? ⟨g1, 1, none⟩ = some (.int .i64 0) ∧ w.cell? ⟨g1, 2, none⟩ = some (.int .i64 0) ∧ w.cell? ⟨g1, 3, none⟩ = some (.int .u64 0) ∧ w.cell? ⟨g1, 4, none⟩ = some (.int .u64 0) ∧ w.cell? ⟨g1, 5, none⟩ = some (.bool false) ∧
  w.cell? ⟨g2, 0, none⟩ = some (.int .i64 0) ∧ w.cell? ⟨g2, 1, none⟩ = some (.int .i64 0) ∧ w.cell? ⟨g2, 2, none⟩ = some (.int .i64 0) ∧ w.cell? ⟨g2, 3, none⟩ = some (.int .u64 0) ∧ w.cell? ⟨g2, 4, none⟩ = some (.int .u64 0) ∧ w.cell? ⟨g2, 5, none⟩ = some (.bool false) ∧
  w.cell? ⟨gi, 0, none⟩ = some vd ∧ w.cell? ⟨gi, 1, none⟩ = some vo ∧ w.cell? ⟨gi, 2, none⟩ = some (.int .u64 c) ∧ w.cell? ⟨gi, 3, none⟩ = some (.int .u64 k) ∧ w.cell? ⟨gi, 4, none⟩ = some (.int .u64 s) ∧ w.cell? ⟨gi, 5, none⟩ = some vl ∧ w.cell? ⟨gi, 6, none⟩ = some vh ∧ w.cell? ⟨gi, 7, none⟩ = some vn ∧
  H15 w0 lo m1 hi b rb gp gf ga g1 g2 gi A c k s vd vo vl vh vn w
theorem mem4 (w : World) {g : Nat} (h1 : w.heap.size ≤ g) (h2 : g < w.heap.size + 4) : Mem ((((w.alloc ZO).alloc ZO).alloc ZO).alloc ZO) g 57 #[.int .i64 0, .int .i64 0, .int .i64 0, .int .u64 0, .int .u64 0, .bool false] := by
  have : g = w.heap.size ∨ g = w.heap.size + 1 ∨ g = w.heap.size + 2 ∨ g = w.heap.size + 3 := by omega
  rcases this with rfl | rfl | rfl | rfl
  · exact (((Mem.new w _ _).alloc _).alloc _).alloc _
  · exact ((mem_new1 w _ _ _).alloc _).alloc _
  · exact (mem_new2 w _ _ _ _).alloc _
  · have := mem_new2 (w.alloc ZO) ZO ZO 57 #[.int .i64 0, .int .i64 0, .int .i64 0, .int .u64 0, .int .u64 0, .bool false]
    rwa [size_new] at this
section
variable {w0 w w' : World} {lo m1 hi b rb gp gf ga g1 g2 gi : Nat} {A : Int → List Int} {c k s : Int} {vd vo vl vh vn : Value}
theorem s15_of (h : H15 w0 lo m1 hi b rb gp gf ga g1 g2 gi A c k s vd vo vl vh vn w) : S15 w0 lo m1 hi b rb gp gf ga g1 g2 gi A c k s vd vo vl vh vn w :=
  ⟨h.mp.cell 0, h.ma.cell 0, h.ma.cell 3, h.z1.cell 0, h.z1.cell 1, h.z1.cell 2, h.z1.cell 3, h.z1.cell 4, h.z1.cell 5, h.z2.cell 0, h.z2.cell 1, h.z2.cell 2, h.z2.cell 3, h.z2.cell 4, h.z2.cell 5, h.mi.cell 0, h.mi.cell 1, h.mi.cell 2, h.mi.cell 3, h.mi.cell 4, h.mi.cell 5, h.mi.cell 6, h.mi.cell 7, h⟩
theorem s15_h (h : S15 w0 lo m1 hi b rb gp gf ga g1 g2 gi A c k s vd vo vl vh vn w) : H15 w0 lo m1 hi b rb gp gf ga g1 g2 gi A c k s vd vo vl vh vn w := h.2.2.2.2.2.2.2.2.2.2.2.2.2.2.2.2.2.2.2.2.2.2.2
theorem H15.stay (h : H15 w0 lo m1 hi b rb gp gf ga g1 g2 gi A c k s vd vo vl vh vn w) (hi' : Is lo m1 w' b A) (hs : Stay lo m1 w w') : H15 w0 lo m1 hi b rb gp gf ga g1 g2 gi A c k s vd vo vl vh vn w' := by
  obtain ⟨a0, a1, a2, a3, a4, a5, a6, a7⟩ := h.st
  have ow : ∀ v xs, OwnU w m1 v xs → OwnU w' m1 v xs := fun v xs o => own_of_block o fun g hg => hs.block g (o.lt g hg).2 (.inr (o.lt g hg).1)
  have me : ∀ g t cs, Mem w g t cs → m1 ≤ g → Mem w' g t cs := fun g t cs hm hg => Mem.of_eq hm (hs.block g hm.lt (.inr hg))
  exact ⟨hi', me _ _ _ h.mp a2, me _ _ _ h.mf a3, me _ _ _ h.ma a4, me _ _ _ h.z1 a5, me _ _ _ h.z2 a6, me _ _ _ h.mi a7, ow _ _ h.od, ow _ _ h.oo, ow _ _ h.ol, ow _ _ h.oh, ow _ _ h.on, h.old.trans (hs.below a0 h.old.size), h.st⟩
theorem s15_stay (h : S15 w0 lo m1 hi b rb gp gf ga g1 g2 gi A c k s vd vo vl vh vn w) (hi' : Is lo m1 w' b A) (hs : Stay lo m1 w w') : S15 w0 lo m1 hi b rb gp gf ga g1 g2 gi A c k s vd vo vl vh vn w' := s15_of ((s15_h h).stay hi' hs)
theorem s15_below (h : S15 w0 lo m1 hi b rb gp gf ga g1 g2 gi A c k s vd vo vl vh vn w) (hb : Below w.heap.size w w') : S15 w0 lo m1 hi b rb gp gf ga g1 g2 gi A c k s vd vo vl vh vn w' := s15_of ((s15_h h).stay ((s15_h h).is.below hb) (Stay.of_below hb))
theorem s15_is (h : S15 w0 lo m1 hi b rb gp gf ga g1 g2 gi A c k s vd vo vl vh vn w) : Is lo m1 w b A := (s15_h h).is
theorem s15_done (h : S15 w0 lo m1 hi b rb gp gf ga g1 g2 gi A c k s vd vo vl vh vn w) : Calls Try.prog 50 #[.pointer (some ⟨gf, 0, none⟩)] w fun e w' => e = .returned (.bool true) ∧ w = w' := f_done gf 2 0 1 1 c w (s15_h h).mf
theorem s15_both {base : Nat} {ud uo ul uh un : Value} (h : S15 w0 lo m1 hi b rb gp gf ga g1 g2 gi A c k s vd vo vl vh vn w) (hl : ∀ k : Int, (A k).length ≤ 1000) (ho : OwnU w base ud (A 1) ∧ OwnU w base uo (A 2) ∧ OwnU w base ul (A 6) ∧ OwnU w base uh (A 7) ∧ OwnU w base un (A 8)) :
    Calls Try.prog 24 #[imgV vd vo c k s vl vh vn, imgV ud uo c k s ul uh un] w fun e w' => e = .returned (.bool true) ∧ Below w.heap.size w w' := by
  have r := s15_h h
  exact k_image w c k s vd vo vl vh vn ud uo ul uh un (A 1) (A 2) (A 6) (A 7) (A 8) (rd_own r.od) (rd_own ho.1) (rd_own r.oo) (rd_own ho.2.1) (rd_own r.ol) (rd_own ho.2.2.1) (rd_own r.oh) (rd_own ho.2.2.2.1) (rd_own r.on) (rd_own ho.2.2.2.2) (hl 1) (hl 2) (hl 6) (hl 7) (hl 8)
end

theorem readable : ∀ t ∈ Try.f12.params.toList, Try.prog.readableRec t = true ∧ t < Try.prog.types.size := by
  have h : (Try.f12.params.toList.all fun t => Try.prog.readableRec t && decide (t < Try.prog.types.size)) = true := by kernel_rfl
  intro t ht
  have := List.all_eq_true.1 h t ht
  simpa using this

/-! The walk. -/
theorem walk (w : World) (x0_0 x0_1 x0_2 x0_3 x0_4 : Int) (wx0_0 : LayS.InI x0_0) (wx0_1 : LayS.InI x0_1) (wx0_2 : LayS.InI x0_2) (wx0_3 : LayS.InI x0_3) (wx0_4 : LayS.InI x0_4) (a1 : Int) (w1 : (Lit.int .u64 a1).wf = true) :
    Calls Try.prog 12 #[.agg #[.int .i64 x0_0, .int .i64 x0_1, .int .i64 x0_2, .int .i64 x0_3, .int .i64 x0_4], .int .u64 a1] w fun e w' => e = .returned (.bool true) ∧ Kept w w' := by
  show Calls _ _ #[.agg _, _] _ _
  clear wx0_0 wx0_1 wx0_2 wx0_3 wx0_4
  have hb2 := bounds_u64 w1
  clear w1
  have HB0 := Lib.hid (below_new w (.cells #[.int .i64 x0_0, .int .i64 x0_1, .int .i64 x0_2, .int .i64 x0_3, .int .i64 x0_4] 22))
  go_enter Try.func12, Try.ntmps12
  go_upto_region 2 with (go_at_call 34; refine (l_small _ _ _ _ _ _).mono ?_; rintro e w1 ⟨q, A, lo, hi, b, rb, rfl, hst⟩)
  obtain ⟨w0, hw0⟩ : ∃ w0, w.alloc (.cells #[.int .i64 x0_0, .int .i64 x0_1, .int .i64 x0_2, .int .i64 x0_3, .int .i64 x0_4] 22) = w0 := ⟨_, rfl⟩
  rw [hw0] at HB0 hst
  clear hw0
  have S0 := Lib.hid (sl_begun hst)
  have hlo := S0.out.lo
  have hle := S0.out.le
  clear hst
  have X1_gp := Lib.hid (Mem.new w1 TP #[.pointer (some ⟨b, 0, none⟩), .pointer (some ⟨rb, 0, none⟩)])
  have S1 := Lib.hid (S0.out.alloc (.cells #[.pointer (some ⟨b, 0, none⟩), .pointer (some ⟨rb, 0, none⟩)] TP))
  have hgp_top := S0.out.top
  obtain ⟨gp, hn⟩ : ∃ gp, w1.heap.size = gp := ⟨_, rfl⟩
  have Z_gp : Hid ((w1.alloc (.cells #[.pointer (some ⟨b, 0, none⟩), .pointer (some ⟨rb, 0, none⟩)] TP)).heap.size = gp + 1) := Lib.hid (by rw [size_new, hn])
  rw [hn] at X1_gp hgp_top 
  first | rw [hn] | skip
  clear hn 
  obtain ⟨W1, hW⟩ : ∃ W', w1.alloc (.cells #[.pointer (some ⟨b, 0, none⟩), .pointer (some ⟨rb, 0, none⟩)] TP) = W' := ⟨_, rfl⟩
  rw [hW] at X1_gp S1 Z_gp
  first | rw [hW] | skip
  clear hW
  clear S0
  have c1_gp_0 := Mem.cell X1_gp.out 0
  have c1_gp_1 := Mem.cell X1_gp.out 1
  simp at c1_gp_0 c1_gp_1
  go_upto_region 3 with (fail)
  obtain ⟨c, hc⟩ : ∃ c, a1 % 1099511627777 = c := ⟨_, rfl⟩
  rw [hc]
  have h0 : 0 ≤ c := by omega
  have h1 : c ≤ 1099511627776 := by omega
  clear hc hb2
  have hc := l_clock S1.out c
  go_upto_region 5 with (go_at_call 35; refine hc.mono ?_; rintro e w1' ⟨rfl, hS, hT⟩; have hF := Fr.of_stay (P := PI lo hi) hT (fun x a c => ⟨a, c⟩); clear hT)
  have X2_gp := Lib.hid (mem_fr X1_gp.out hF (by unfold PI; omega))
  have S2 := Lib.hid hS
  clear hc hF hS c1_gp_0 c1_gp_1 X1_gp S1
  have c2_gp_0 := Mem.cell X2_gp.out 0
  have c2_gp_1 := Mem.cell X2_gp.out 1
  simp at c2_gp_0 c2_gp_1
  go_upto_region 6 with (first
    | (go_at_call 48; refine (f_new _ _ _).mono ?_; rintro e w4' ⟨rfl, rfl⟩)
    | (go_at_call 36; refine (e_new _ _).mono ?_; rintro e w3' ⟨rfl, rfl⟩))
  have X3_gp := Lib.hid (X2_gp.out.alloc (.cells #[.int .i64 0, .int .i64 0, .int .i64 1, .int .i64 0, .int .i64 (-1)] 129))
  have hgf_gp : gp < w1'.heap.size := X2_gp.out.lt
  have X3_gf := Lib.hid (Mem.new w1' 129 #[.int .i64 0, .int .i64 0, .int .i64 1, .int .i64 0, .int .i64 (-1)])
  have S3 := Lib.hid (S2.out.alloc (.cells #[.int .i64 0, .int .i64 0, .int .i64 1, .int .i64 0, .int .i64 (-1)] 129))
  have hgf_top := S2.out.top
  obtain ⟨gf, hn⟩ : ∃ gf, w1'.heap.size = gf := ⟨_, rfl⟩
  have Z_gf : Hid ((w1'.alloc (.cells #[.int .i64 0, .int .i64 0, .int .i64 1, .int .i64 0, .int .i64 (-1)] 129)).heap.size = gf + 1) := Lib.hid (by rw [size_new, hn])
  rw [hn] at X3_gf hgf_top hgf_gp
  first | rw [hn] | skip
  clear hn c2_gp_0 c2_gp_1
  obtain ⟨W3, hW⟩ : ∃ W', w1'.alloc (.cells #[.int .i64 0, .int .i64 0, .int .i64 1, .int .i64 0, .int .i64 (-1)] 129) = W' := ⟨_, rfl⟩
  rw [hW] at X3_gp X3_gf S3 Z_gf
  first | rw [hW] | skip
  clear hW
  clear X2_gp S2
  have c3_gp_0 := Mem.cell X3_gp.out 0
  have c3_gp_1 := Mem.cell X3_gp.out 1
  have c3_gf_0 := Mem.cell X3_gf.out 0
  have c3_gf_1 := Mem.cell X3_gf.out 1
  have c3_gf_2 := Mem.cell X3_gf.out 2
  have c3_gf_3 := Mem.cell X3_gf.out 3
  have c3_gf_4 := Mem.cell X3_gf.out 4
  simp at c3_gp_0 c3_gp_1 c3_gf_0 c3_gf_1 c3_gf_2 c3_gf_3 c3_gf_4
  have X4_gp := Lib.hid (X3_gp.out.alloc (.cells #[.int .i64 0, .int .i64 0, .int .i64 (-1)] 123))
  have X4_gf := Lib.hid (X3_gf.out.alloc (.cells #[.int .i64 0, .int .i64 0, .int .i64 (-1)] 123))
  have hge_gp : gp < W3.heap.size := X3_gp.out.lt
  have hge_gf : gf < W3.heap.size := X3_gf.out.lt
  have X4_ge := Lib.hid (Mem.new W3 123 #[.int .i64 0, .int .i64 0, .int .i64 (-1)])
  have S4 := Lib.hid (S3.out.alloc (.cells #[.int .i64 0, .int .i64 0, .int .i64 (-1)] 123))
  have hge_top := S3.out.top
  obtain ⟨ge, hn⟩ : ∃ ge, W3.heap.size = ge := ⟨_, rfl⟩
  have Z_ge : Hid ((W3.alloc (.cells #[.int .i64 0, .int .i64 0, .int .i64 (-1)] 123)).heap.size = ge + 1) := Lib.hid (by rw [size_new, hn])
  first | rw [← Z_gf.out] | skip
  rw [hn] at X4_ge hge_top hge_gp hge_gf
  first | rw [hn] | skip
  clear hn c3_gp_0 c3_gp_1 c3_gf_0 c3_gf_1 c3_gf_2 c3_gf_3 c3_gf_4
  obtain ⟨W4, hW⟩ : ∃ W', W3.alloc (.cells #[.int .i64 0, .int .i64 0, .int .i64 (-1)] 123) = W' := ⟨_, rfl⟩
  rw [hW] at X4_gp X4_gf X4_ge S4 Z_ge
  first | rw [hW] | skip
  clear hW
  clear X3_gp X3_gf S3
  have c4_gp_0 := Mem.cell X4_gp.out 0
  have c4_gp_1 := Mem.cell X4_gp.out 1
  have c4_gf_0 := Mem.cell X4_gf.out 0
  have c4_gf_1 := Mem.cell X4_gf.out 1
  have c4_gf_2 := Mem.cell X4_gf.out 2
  have c4_gf_3 := Mem.cell X4_gf.out 3
  have c4_gf_4 := Mem.cell X4_gf.out 4
  have c4_ge_0 := Mem.cell X4_ge.out 0
  have c4_ge_1 := Mem.cell X4_ge.out 1
  have c4_ge_2 := Mem.cell X4_ge.out 2
  simp at c4_gp_0 c4_gp_1 c4_gf_0 c4_gf_1 c4_gf_2 c4_gf_3 c4_gf_4 c4_ge_0 c4_ge_1 c4_ge_2
  go_upto_region 8 with (first
    | (go_at_call 50; refine (f_done gf 0 0 1 0 (-1) _ X4_gf.out).mono ?_; rintro e w10 ⟨rfl, rfl⟩)
    | (go_at_call 52; refine (f_limit gf 0 0 1 0 (-1) _ X4_gf.out).mono ?_; rintro e w11 ⟨rfl, rfl⟩)
    | (go_at_call 40; refine (e_snap ge 0 0 (-1) _ X4_ge.out).mono ?_; rintro e w13 ⟨rfl, rfl⟩))
  have hc := l_f0 S4.out (.inr (by omega)) (by omega) 0 1 h0 h1 X4_gf.out
  go_upto_region 9 with (go_at_call 53; refine hc.mono ?_; rintro e w4' ⟨rfl, hS, hM, hF⟩; simp [fsv, skp] at hM)
  have X5_gp := Lib.hid (mem_fr X4_gp.out hF (by unfold PG; omega))
  have X5_ge := Lib.hid (mem_fr X4_ge.out hF (by unfold PG; omega))
  have X5_gf : Hid (Mem w4' gf 129 #[.int .i64 2, .int .i64 0, .int .i64 1, .int .i64 1, .int .i64 c]) := Lib.hid hM
  have S5 := Lib.hid hS
  clear hc hF hS hM c4_gp_0 c4_gp_1 c4_gf_0 c4_gf_1 c4_gf_2 c4_gf_3 c4_gf_4 c4_ge_0 c4_ge_1 c4_ge_2 X4_gp X4_gf X4_ge S4
  have c5_gp_0 := Mem.cell X5_gp.out 0
  have c5_gp_1 := Mem.cell X5_gp.out 1
  have c5_gf_0 := Mem.cell X5_gf.out 0
  have c5_gf_1 := Mem.cell X5_gf.out 1
  have c5_gf_2 := Mem.cell X5_gf.out 2
  have c5_gf_3 := Mem.cell X5_gf.out 3
  have c5_gf_4 := Mem.cell X5_gf.out 4
  have c5_ge_0 := Mem.cell X5_ge.out 0
  have c5_ge_1 := Mem.cell X5_ge.out 1
  have c5_ge_2 := Mem.cell X5_ge.out 2
  simp at c5_gp_0 c5_gp_1 c5_gf_0 c5_gf_1 c5_gf_2 c5_gf_3 c5_gf_4 c5_ge_0 c5_ge_1 c5_ge_2
  have X6_gp := Lib.hid (X5_gp.out.alloc (.cells #[.int .i64 1, .int .i64 3, .int .i64 0, .int .u64 c, .int .u64 c, .bool true] 57))
  have X6_gf := Lib.hid (X5_gf.out.alloc (.cells #[.int .i64 1, .int .i64 3, .int .i64 0, .int .u64 c, .int .u64 c, .bool true] 57))
  have X6_ge := Lib.hid (X5_ge.out.alloc (.cells #[.int .i64 1, .int .i64 3, .int .i64 0, .int .u64 c, .int .u64 c, .bool true] 57))
  have hga_gp : gp < w4'.heap.size := X5_gp.out.lt
  have hga_gf : gf < w4'.heap.size := X5_gf.out.lt
  have hga_ge : ge < w4'.heap.size := X5_ge.out.lt
  have X6_ga := Lib.hid (Mem.new w4' 57 #[.int .i64 1, .int .i64 3, .int .i64 0, .int .u64 c, .int .u64 c, .bool true])
  have S6 := Lib.hid (S5.out.alloc (.cells #[.int .i64 1, .int .i64 3, .int .i64 0, .int .u64 c, .int .u64 c, .bool true] 57))
  have hga_top := S5.out.top
  obtain ⟨ga, hn⟩ : ∃ ga, w4'.heap.size = ga := ⟨_, rfl⟩
  have Z_ga : Hid ((w4'.alloc (.cells #[.int .i64 1, .int .i64 3, .int .i64 0, .int .u64 c, .int .u64 c, .bool true] 57)).heap.size = ga + 1) := Lib.hid (by rw [size_new, hn])
  rw [hn] at X6_ga hga_top hga_gp hga_gf hga_ge
  first | rw [hn] | skip
  clear hn c5_gp_0 c5_gp_1 c5_gf_0 c5_gf_1 c5_gf_2 c5_gf_3 c5_gf_4 c5_ge_0 c5_ge_1 c5_ge_2
  obtain ⟨W6, hW⟩ : ∃ W', w4'.alloc (.cells #[.int .i64 1, .int .i64 3, .int .i64 0, .int .u64 c, .int .u64 c, .bool true] 57) = W' := ⟨_, rfl⟩
  rw [hW] at X6_gp X6_gf X6_ge X6_ga S6 Z_ga
  first | rw [hW] | skip
  clear hW
  clear X5_gp X5_gf X5_ge S5
  have c6_gp_0 := Mem.cell X6_gp.out 0
  have c6_gp_1 := Mem.cell X6_gp.out 1
  have c6_gf_0 := Mem.cell X6_gf.out 0
  have c6_gf_1 := Mem.cell X6_gf.out 1
  have c6_gf_2 := Mem.cell X6_gf.out 2
  have c6_gf_3 := Mem.cell X6_gf.out 3
  have c6_gf_4 := Mem.cell X6_gf.out 4
  have c6_ge_0 := Mem.cell X6_ge.out 0
  have c6_ge_1 := Mem.cell X6_ge.out 1
  have c6_ge_2 := Mem.cell X6_ge.out 2
  have c6_ga_0 := Mem.cell X6_ga.out 0
  have c6_ga_1 := Mem.cell X6_ga.out 1
  have c6_ga_2 := Mem.cell X6_ga.out 2
  have c6_ga_3 := Mem.cell X6_ga.out 3
  have c6_ga_4 := Mem.cell X6_ga.out 4
  have c6_ga_5 := Mem.cell X6_ga.out 5
  simp at c6_gp_0 c6_gp_1 c6_gf_0 c6_gf_1 c6_gf_2 c6_gf_3 c6_gf_4 c6_ge_0 c6_ge_1 c6_ge_2 c6_ga_0 c6_ga_1 c6_ga_2 c6_ga_3 c6_ga_4 c6_ga_5
  go_wp2_with fail
  go_loopw [11] (fun iv wr => ∃ i : Nat, i ≤ 3 ∧ iv = .int .i64 i ∧ Sl w0 lo hi b rb q c (sl 0 c i) wr ∧ Mem wr gp TP #[.pointer (some ⟨b, 0, none⟩), .pointer (some ⟨rb, 0, none⟩)] ∧ Mem wr ge 123 #[.int .i64 i, .int .i64 0, .int .i64 (sn c i)] ∧ Mem wr gf 129 #[.int .i64 2, .int .i64 0, .int .i64 1, .int .i64 1, .int .i64 c] ∧ Mem wr ga 57 #[.int .i64 1, .int .i64 3, .int .i64 0, .int .u64 c, .int .u64 c, .bool true]) (fun iv _ => 3 - (intOf iv).toNat)
  case atStart => exact ⟨0, by omega, rfl, S6.out, X6_gp.out, X6_ge.out, X6_gf.out, X6_ga.out⟩
  case round =>
    clear c6_gp_0 c6_gp_1 c6_gf_0 c6_gf_1 c6_gf_2 c6_gf_3 c6_gf_4 c6_ge_0 c6_ge_1 c6_ge_2 c6_ga_0 c6_ga_1 c6_ga_2 c6_ga_3 c6_ga_4 c6_ga_5 X6_gp X6_gf X6_ge X6_ga S6
    obtain ⟨i, hi3, rfl, hS, hP, hE, hFm, hAm⟩ := hrel
    have X6_gp := Lib.hid hP
    have X6_ge := Lib.hid hE
    have X6_gf := Lib.hid hFm
    have X6_ga := Lib.hid hAm
    have S6 := Lib.hid hS
    clear hS hP hE hFm hAm
    have c6_gp_0 := Mem.cell X6_gp.out 0
    have c6_gp_1 := Mem.cell X6_gp.out 1
    have c6_gf_0 := Mem.cell X6_gf.out 0
    have c6_gf_1 := Mem.cell X6_gf.out 1
    have c6_gf_2 := Mem.cell X6_gf.out 2
    have c6_gf_3 := Mem.cell X6_gf.out 3
    have c6_gf_4 := Mem.cell X6_gf.out 4
    have c6_ge_0 := Mem.cell X6_ge.out 0
    have c6_ge_1 := Mem.cell X6_ge.out 1
    have c6_ge_2 := Mem.cell X6_ge.out 2
    have c6_ga_0 := Mem.cell X6_ga.out 0
    have c6_ga_1 := Mem.cell X6_ga.out 1
    have c6_ga_2 := Mem.cell X6_ga.out 2
    have c6_ga_3 := Mem.cell X6_ga.out 3
    have c6_ga_4 := Mem.cell X6_ga.out 4
    have c6_ga_5 := Mem.cell X6_ga.out 5
    simp at c6_gp_0 c6_gp_1 c6_gf_0 c6_gf_1 c6_gf_2 c6_gf_3 c6_gf_4 c6_ge_0 c6_ge_1 c6_ge_2 c6_ga_0 c6_ga_1 c6_ga_2 c6_ga_3 c6_ga_4 c6_ga_5
    by_cases hlt : i < 3
    · have hltI : (i : Int) < 3 := by omega
      have hc := el_step 0 (by omega) i hlt h0 h1 (.inr (by omega)) (by omega) S6.out X6_ge.out
      go_upto_region 11 with (go_at_call 41; refine hc.mono ?_; rintro e w6' ⟨⟨v, rfl⟩, hS, hM, hF⟩)
      have X7_gp := Lib.hid (mem_fr X6_gp.out hF (by unfold PG; omega))
      have X7_gf := Lib.hid (mem_fr X6_gf.out hF (by unfold PG; omega))
      have X7_ga := Lib.hid (mem_fr X6_ga.out hF (by unfold PG; omega))
      have X7_ge : Hid (Mem w6' ge 123 #[.int .i64 ((i + 1 : Nat) : Int), .int .i64 0, .int .i64 (sn c (i + 1))]) := Lib.hid hM
      have S7 := Lib.hid hS
      clear hc hF hS hM c6_gp_0 c6_gp_1 c6_gf_0 c6_gf_1 c6_gf_2 c6_gf_3 c6_gf_4 c6_ge_0 c6_ge_1 c6_ge_2 c6_ga_0 c6_ga_1 c6_ga_2 c6_ga_3 c6_ga_4 c6_ga_5 X6_gp X6_gf X6_ge X6_ga S6
      have c7_gp_0 := Mem.cell X7_gp.out 0
      have c7_gp_1 := Mem.cell X7_gp.out 1
      have c7_gf_0 := Mem.cell X7_gf.out 0
      have c7_gf_1 := Mem.cell X7_gf.out 1
      have c7_gf_2 := Mem.cell X7_gf.out 2
      have c7_gf_3 := Mem.cell X7_gf.out 3
      have c7_gf_4 := Mem.cell X7_gf.out 4
      have c7_ge_0 := Mem.cell X7_ge.out 0
      have c7_ge_1 := Mem.cell X7_ge.out 1
      have c7_ge_2 := Mem.cell X7_ge.out 2
      have c7_ga_0 := Mem.cell X7_ga.out 0
      have c7_ga_1 := Mem.cell X7_ga.out 1
      have c7_ga_2 := Mem.cell X7_ga.out 2
      have c7_ga_3 := Mem.cell X7_ga.out 3
      have c7_ga_4 := Mem.cell X7_ga.out 4
      have c7_ga_5 := Mem.cell X7_ga.out 5
      simp at c7_gp_0 c7_gp_1 c7_gf_0 c7_gf_1 c7_gf_2 c7_gf_3 c7_gf_4 c7_ge_0 c7_ge_1 c7_ge_2 c7_ga_0 c7_ga_1 c7_ga_2 c7_ga_3 c7_ga_4 c7_ga_5
      go_wp2_with fail
      go_roundw
      case rel => exact ⟨i + 1, by omega, by go_num, S7.out, X7_gp.out, X7_ge.out, X7_gf.out, X7_ga.out⟩
      case measure => simp [intOf]; omega
    · obtain rfl : i = 3 := by omega
      obtain ⟨A, B, ⟨m1, m2, hI, hR, hm, ho⟩, h3, h4, h6, hh⟩ := S6.out.duo
      obtain ⟨kt, hkt⟩ : ∃ t, A 4 = [t] := ⟨_, one_get hh.1⟩
      obtain ⟨ks, hks⟩ : ∃ t, A 5 = [t] := ⟨_, one_get hh.2⟩
      have l1 := Is.le hI
      have l2 := RefIs.le hR
      have hlen : ∀ k : Int, (A k).length ≤ 1000 := by
        obtain ⟨bm, g, hI⟩ := hI
        exact hI.len
      have himg := m_image lo m1 wr b A hI c kt ks h3 hkt hks
      have hm1w : m1 ≤ wr.heap.size := hI.top
      clear c6_gp_0 c6_gp_1 c6_gf_0 c6_gf_1 c6_gf_2 c6_gf_3 c6_gf_4 c6_ge_0 c6_ge_1 c6_ge_2 c6_ga_0 c6_ga_1 c6_ga_2 c6_ga_3 c6_ga_4 c6_ga_5 hI hR hh h6 hlt hi3
      have c_p := X6_gp.out.cell 0
      simp at c_p
      go_upto_region 14 with (go_at_call 25; refine himg.mono ?_; rintro e w14 ⟨vd, vo, vl, vh, vn, rfl, hown, hI, hS⟩; obtain ⟨Ad, cd, rfl, _⟩ := own_slice hown.1; obtain ⟨Ao, co, rfl, _⟩ := own_slice hown.2.1; obtain ⟨Al, cl, rfl, _⟩ := own_slice hown.2.2.1; obtain ⟨Ah, ch, rfl, _⟩ := own_slice hown.2.2.2.1; obtain ⟨An, cn, rfl, _⟩ := own_slice hown.2.2.2.2)
      have Y_gp := Lib.hid ((Mem.of_eq X6_gp.out (hS.block gp X6_gp.out.lt (.inr (by omega)))).alloc (.cells #[(.slice Ad (A 1).length cd), (.slice Ao (A 2).length co), .int .u64 c, .int .u64 kt, .int .u64 ks, (.slice Al (A 6).length cl), (.slice Ah (A 7).length ch), (.slice An (A 8).length cn)] 44))
      have Y_ge := Lib.hid ((Mem.of_eq X6_ge.out (hS.block ge X6_ge.out.lt (.inr (by omega)))).alloc (.cells #[(.slice Ad (A 1).length cd), (.slice Ao (A 2).length co), .int .u64 c, .int .u64 kt, .int .u64 ks, (.slice Al (A 6).length cl), (.slice Ah (A 7).length ch), (.slice An (A 8).length cn)] 44))
      have Y_gf := Lib.hid ((Mem.of_eq X6_gf.out (hS.block gf X6_gf.out.lt (.inr (by omega)))).alloc (.cells #[(.slice Ad (A 1).length cd), (.slice Ao (A 2).length co), .int .u64 c, .int .u64 kt, .int .u64 ks, (.slice Al (A 6).length cl), (.slice Ah (A 7).length ch), (.slice An (A 8).length cn)] 44))
      have Y_ga := Lib.hid ((Mem.of_eq X6_ga.out (hS.block ga X6_ga.out.lt (.inr (by omega)))).alloc (.cells #[(.slice Ad (A 1).length cd), (.slice Ao (A 2).length co), .int .u64 c, .int .u64 kt, .int .u64 ks, (.slice Al (A 6).length cl), (.slice Ah (A 7).length ch), (.slice An (A 8).length cn)] 44))
      have Y_gi := Lib.hid (Mem.new w14 44 #[(.slice Ad (A 1).length cd), (.slice Ao (A 2).length co), .int .u64 c, .int .u64 kt, .int .u64 ks, (.slice Al (A 6).length cl), (.slice Ah (A 7).length ch), (.slice An (A 8).length cn)])
      have ow : ∀ v xs, OwnU w14 wr.heap.size v xs → OwnU (w14.alloc (.cells #[(.slice Ad (A 1).length cd), (.slice Ao (A 2).length co), .int .u64 c, .int .u64 kt, .int .u64 ks, (.slice Al (A 6).length cl), (.slice Ah (A 7).length ch), (.slice An (A 8).length cn)] 44)) m1 v xs := fun v xs o => (own_mono o hm1w).alloc _
      have YO := Lib.hid (show OwnU (w14.alloc (.cells #[(.slice Ad (A 1).length cd), (.slice Ao (A 2).length co), .int .u64 c, .int .u64 kt, .int .u64 ks, (.slice Al (A 6).length cl), (.slice Ah (A 7).length ch), (.slice An (A 8).length cn)] 44)) m1 (.slice Ad (A 1).length cd) (A 1) ∧ OwnU (w14.alloc (.cells #[(.slice Ad (A 1).length cd), (.slice Ao (A 2).length co), .int .u64 c, .int .u64 kt, .int .u64 ks, (.slice Al (A 6).length cl), (.slice Ah (A 7).length ch), (.slice An (A 8).length cn)] 44)) m1 (.slice Ao (A 2).length co) (A 2) ∧ OwnU (w14.alloc (.cells #[(.slice Ad (A 1).length cd), (.slice Ao (A 2).length co), .int .u64 c, .int .u64 kt, .int .u64 ks, (.slice Al (A 6).length cl), (.slice Ah (A 7).length ch), (.slice An (A 8).length cn)] 44)) m1 (.slice Al (A 6).length cl) (A 6) ∧ OwnU (w14.alloc (.cells #[(.slice Ad (A 1).length cd), (.slice Ao (A 2).length co), .int .u64 c, .int .u64 kt, .int .u64 ks, (.slice Al (A 6).length cl), (.slice Ah (A 7).length ch), (.slice An (A 8).length cn)] 44)) m1 (.slice Ah (A 7).length ch) (A 7) ∧ OwnU (w14.alloc (.cells #[(.slice Ad (A 1).length cd), (.slice Ao (A 2).length co), .int .u64 c, .int .u64 kt, .int .u64 ks, (.slice Al (A 6).length cl), (.slice Ah (A 7).length ch), (.slice An (A 8).length cn)] 44)) m1 (.slice An (A 8).length cn) (A 8) from ⟨ow _ _ hown.1, ow _ _ hown.2.1, ow _ _ hown.2.2.1, ow _ _ hown.2.2.2.1, ow _ _ hown.2.2.2.2⟩)
      have YI := Lib.hid (hI.below (below_new w14 (.cells #[(.slice Ad (A 1).length cd), (.slice Ao (A 2).length co), .int .u64 c, .int .u64 kt, .int .u64 ks, (.slice Al (A 6).length cl), (.slice Ah (A 7).length ch), (.slice An (A 8).length cn)] 44)))
      have YB := Lib.hid ((S6.out.old.trans (hS.below hlo S6.out.old.size)).alloc (Nat.le_trans S6.out.old.size hS.size) (.cells #[(.slice Ad (A 1).length cd), (.slice Ao (A 2).length co), .int .u64 c, .int .u64 kt, .int .u64 ks, (.slice Al (A 6).length cl), (.slice Ah (A 7).length ch), (.slice An (A 8).length cn)] 44))
      have hgi : m1 ≤ w14.heap.size := hI.top
      obtain ⟨gi, hgie⟩ : ∃ gi, w14.heap.size = gi := ⟨_, rfl⟩
      rw [hgie] at Y_gi hgi
      first | rw [hgie] | skip
      obtain ⟨W, hW⟩ : ∃ W, w14.alloc (.cells #[(.slice Ad (A 1).length cd), (.slice Ao (A 2).length co), .int .u64 c, .int .u64 kt, .int .u64 ks, (.slice Al (A 6).length cl), (.slice Ah (A 7).length ch), (.slice An (A 8).length cn)] 44) = W := ⟨_, rfl⟩
      rw [hW] at Y_gp Y_ge Y_gf Y_ga Y_gi YO YI YB
      first | rw [hW] | skip
      clear hW hgie ow hown hI hS himg c_p X6_gp X6_ge X6_gf X6_ga S6
      have hs0 : S14 b rb gp gf ge 0 1 1 c (sn c 3) W.drew := s14_of ⟨Y_gp.out, Y_gf.out, Y_ge.out⟩
      go_cut [13, 14] (fun p1 p2 wc => ∃ g1 g2 : Nat, p1 = .pointer (some ⟨g1, 0, none⟩) ∧ p2 = .pointer (some ⟨g2, 0, none⟩) ∧ W.heap.size ≤ g1 ∧ g1 < W.heap.size + 4 ∧ W.heap.size ≤ g2 ∧ g2 < W.heap.size + 4 ∧ wc = ((((W.alloc ZO).alloc ZO).alloc ZO).alloc ZO).drew)
      case first =>
        go_region_held3 (S14 b rb gp gf ge 0 1 1 c (sn c 3)) (first | exact hs0 | exact s14_alloc (by assumption) _ | assumption) (first
          | (go_at_call 53; (with_reducible refine (s14_f (by assumption) _).mono ?_); rintro e w20 ⟨rfl, rfl⟩)
          | (go_at_call 41; (with_reducible refine (s14_e (by assumption) _).mono ?_); rintro e w21 ⟨rfl, rfl⟩))
        all_goals
          go_wp2_with fail
          go_meet
          refine ⟨_, _, rfl, rfl, ?_, ?_, ?_, ?_, rfl⟩ <;> first | omega | (simp only [size_new]; omega)
      case rest =>
        obtain ⟨g1, g2, rfl, rfl, u1, u2, u3, u4, rfl⟩ := hcut
        have hb := below_drewN (below_new4 W ZO ZO ZO ZO) 1
        have own : ∀ v xs, OwnU W m1 v xs → OwnU ((((W.alloc ZO).alloc ZO).alloc ZO).alloc ZO).drew m1 v xs := fun v xs o => own_old o (Old.of_below hb)
        have hwm : m1 ≤ W.heap.size := YI.out.top
        have H : H15 w0 lo m1 hi b rb gp gf ga g1 g2 gi A c kt ks (.slice Ad (A 1).length cd) (.slice Ao (A 2).length co) (.slice Al (A 6).length cl) (.slice Ah (A 7).length ch) (.slice An (A 8).length cn) ((((W.alloc ZO).alloc ZO).alloc ZO).alloc ZO).drew :=
          ⟨YI.out.below hb, Y_gp.out.below hb Y_gp.out.lt, Y_gf.out.below hb Y_gf.out.lt, Y_ga.out.below hb Y_ga.out.lt, (mem4 W u1 u2).drewN 1, (mem4 W u3 u4).drewN 1, Y_gi.out.below hb Y_gi.out.lt, own _ _ YO.out.1, own _ _ YO.out.2.1, own _ _ YO.out.2.2.1, own _ _ YO.out.2.2.2.1, own _ _ YO.out.2.2.2.2, below_trans2 YB.out hb, ⟨hlo, l1, by omega, by omega, by omega, by omega, by omega, hgi⟩⟩
        obtain ⟨V, hV⟩ : ∃ V, ((((W.alloc ZO).alloc ZO).alloc ZO).alloc ZO).drew = V := ⟨_, rfl⟩
        rw [hV] at H
        first | rw [hV] | skip
        clear hV hb own Y_gp Y_ge Y_gf Y_ga Y_gi YO YI YB hs0 u1 u2 u3 u4
        have hs1 : S15 w0 lo m1 hi b rb gp gf ga g1 g2 gi A c kt ks (.slice Ad (A 1).length cd) (.slice Ao (A 2).length co) (.slice Al (A 6).length cl) (.slice Ah (A 7).length ch) (.slice An (A 8).length cn) V.drew := s15_below (s15_of H) (below_drewN (Below.refl _ V) 1)
        clear H
        go_wp2_with fail
        go_region_held3 (S15 w0 lo m1 hi b rb gp gf ga g1 g2 gi A c kt ks (.slice Ad (A 1).length cd) (.slice Ao (A 2).length co) (.slice Al (A 6).length cl) (.slice Ah (A 7).length ch) (.slice An (A 8).length cn)) (first | exact hs1 | exact s15_stay (by assumption) (by assumption) (by assumption) | exact s15_below (by assumption) (by assumption) | assumption) (first
          | (go_at_call 50; (with_reducible refine (s15_done (by assumption)).mono ?_); rintro e w30 ⟨rfl, rfl⟩)
          | (go_at_call 25; (with_reducible refine (m_image lo m1 _ b A (s15_is (by assumption)) c kt ks h3 hkt hks).mono ?_); rintro e w31 ⟨ud, uo, ul, uh, un, rfl, hown, hI6, hS6⟩)
          | (go_at_call 24; (with_reducible refine (s15_both (by assumption) hlen (by assumption)).mono ?_); rintro e w32 ⟨rfl, hb7⟩)
          | (go_at_call 46; (with_reducible refine (EpoL.l_awake _).mono ?_); rintro e w33 ⟨rfl, hb8⟩))
        rename_i hH
        have HBF := Lib.hid (below_trans2 HB0.out (s15_h hH).old)
        clear hH hs1
        go_wp2
        go_ret
        exact ⟨rfl, .of_below HBF.out⟩

/-! The row's step. -/
set_option maxRecDepth 100000 in
theorem lifted (os : Os) (started : os.Started) (H : Type) (enc : TypeId × Value → H) :
    ReturnsInHanded {} Try.checked os 12 .any (Rows.epochIdleSpec.pre6 enc Try.prog Try.f12 Rows.epochIdleRow.domain false) (Rows.epochIdleSpec.post enc Try.prog Try.f12 false true false false) := by
  refine returnsInHanded_of_change (C := Try.checked) own started (by kernel_rfl) Try.func12
    (ChangeSpec.witness6 (enc := enc) (C := Try.checked) false ⟨#[], #[.agg #[.int .i64 0, .int .i64 0, .int .i64 0, .int .i64 0, .int .i64 0], .int .u64 0], []⟩ 8 (by kernel_rfl) (by kernel_rfl) (by kernel_rfl) (by kernel_rfl)) ?_
  intro W base args ds gs before hval0 hW hcnd _
  have hval : ∀ (j : Nat) t v, Try.f12.params[j]? = some t → args[j]? = some v → Value.okWide Try.prog W .any base t v := hval0
  have hW' := hW
  obtain ⟨p, q, hA0, hV, rfl, hfz, hnd⟩ := hW
  have hA : DataW.TrodAll enc Try.prog W 0 (fun _ => true) true Try.f12.params.toList args.toList ds p := hA0
  rw [Try.params12] at hA hval
  obtain ⟨v0, vs0, d0, ds0, p0, q0, hargs, rfl, rfl, h0, r0⟩ := trodAll_cons hA
  obtain ⟨v1, vs1, d1, ds1, p1, q1, rfl, rfl, rfl, h1, r1⟩ := trodAll_cons r0
  obtain ⟨rfl, rfl, rfl⟩ := trodAll_nil r1
  obtain rfl : args = #[v0, v1] := by cases args; simp_all
  obtain ⟨rfl, rfl⟩ := trodVars_none hV
  have hk : ∀ W', Kept W W' → Rows.epochIdleSpec.post enc Try.prog Try.f12 false true false false W #[v0, v1] (.bool true) W' := fun W' hb =>
    post_law laidOut readable rfl Try.underlying4 rfl hW' rfl hb
  clear hA0 hval0 hA hW'
  obtain ⟨x0_0, x0_1, x0_2, x0_3, x0_4, rfl, wx0_0, wx0_1, wx0_2, wx0_3, wx0_4⟩ := LayO.open_arr5 (hval 0 22 v0 rfl rfl) h0
  obtain ⟨a1, rfl, rfl, rfl, w1⟩ := open_int Try.underlying29 (hval 1 29 v1 rfl rfl) h1
  refine (walk W x0_0 x0_1 x0_2 x0_3 x0_4 wx0_0 wx0_1 wx0_2 wx0_3 wx0_4 a1 w1).mono fun e W' ⟨he, hg⟩ => ?_
  subst he
  exact ⟨_, rfl, hk W' hg⟩

theorem over : Rows.epochIdleRow.holds Try.pinned (OpenSpec.ofChange Rows.epochIdleSpec) :=
  OpenClaim.holds_of_wide 12 Try.f12 rfl rfl rfl rfl rfl rfl rfl ⟨rfl, rfl, rfl, rfl, rfl⟩ rfl rfl rfl rfl rfl (by kernel_rfl) Try.func12 (by kernel_rfl)
    (of_decide_eq_true (by kernel_rfl)) (by unfold Func.isWrapper; first | (rw [if_pos (by decide +kernel)]; kernel_rfl) | (rw [if_neg (by decide +kernel)]; exact ⟨rfl, rfl⟩))
    (fun os started H enc _ => lifted os started H enc)

/-- The statement. -/
theorem proved : Rows.EpochIdleSaid :=
  over
#print axioms proved
end Go.Proofs.Ythgbfghhiadjpaa.epochIdle
