/-
  Proved: New and the reference's Check of any arguments give one error, New gives cells only without an error, and the cells begin as the reference's. No condition.
-/
import Derived.Test.YtbedgdpcopghfaaRows
import Derived.WalkKit
import Derived.ProofKit
import Derived.OpenShut
import Derived.Test.YtbedgdpcopghfaaFrame
import Derived.Test.YtbedgdpcopghfaaLayO
import Derived.Test.YtbedgdpcopghfaaLayP
import Derived.Test.YtbedgdpcopghfaaCelA
import Derived.Test.YtbedgdpcopghfaaCelB
import Derived.Test.YtbedgdpcopghfaaCelU
import Derived.Test.YtbedgdpcopghfaaCelW
import Derived.Test.YtbedgdpcopghfaaCelY
import Derived.Deep.Cut
import Derived.Deep.RegionHeld3
namespace Go.Proofs.Ytbedgdpcopghfaa.cellsBegin
open Go.ChangeShapes Go.WideShapes Go.ChangeAt Go.RowKit
open LawFrame
open Go.ChangeMaps (open_string)
set_option linter.unusedVariables false

theorem own : ownKnob Try.prog.godebug = none := by kernel_rfl
theorem laidOut : laidOutB Try.prog = true := by kernel_rfl
theorem cells25 : Try.prog.cellsOf 25 = 1 := by kernel_rfl

open PlainT BlkW LayS LayA LayD LayF LayH LayK LayO LayP CelS CelM CelP CelV CelL CelN CelO CelI CelY CelF CelB CelE CelQ CelT CelU CelW
set_option maxHeartbeats 4000000
set_option maxRecDepth 100000
theorem rd_own {w : World} {base : Nat} {v : Value} {xs : List Int} (h : OwnU w base v xs) : Rd w v xs := by
  rcases Nat.eq_zero_or_pos xs.length with h0 | h0
  · obtain ⟨A, c, rfl, _⟩ := own_slice h
    exact ⟨A, c, rfl, fun j x hj => by
      have := (List.getElem?_eq_some_iff.1 hj).1
      omega⟩
  · obtain ⟨g, cap, cur, rfl, _, _, _, hc⟩ := own_cells h h0
    refine ⟨some ⟨g, 0, none⟩, cap, rfl, fun j x hj => ⟨g, 0, rfl, ?_⟩⟩
    have hl := (List.getElem?_eq_some_iff.1 hj).1
    rw [Nat.zero_add, hc j (by omega)]
    unfold us
    rw [List.getElem?_map, hj]
    rfl
theorem rd_ints {w : World} {A : Option Addr} {n c : Nat} {z : List Int} (h : Ints .u64 w A n z) : z.length = n ∧ Rd w (.slice A n c) z := by
  obtain ⟨h1, h2, h3⟩ := h
  refine ⟨h1, A, c, by rw [h1], fun j x hj => ?_⟩
  have hl := (List.getElem?_eq_some_iff.1 hj).1
  obtain ⟨b, off, rfl, hb, hc⟩ := h3 (by omega)
  refine ⟨b, off, rfl, ?_⟩
  rw [hc j (by omega), List.getD_eq_getElem?_getD, hj]
  rfl
theorem new_p (q : Cfg) (w : World) (nt : Int) (p : Option Addr) (n cap : Nat) (xs : List Int) (hl : xs.length = n) (hx : Rd w (.slice p n cap) xs) :
    Calls Try.prog 26 #[cfgV q, .int .i64 nt, .slice p n cap] w fun e w' => ∃ a z, e = .returned (.tuple #[.pointer a, .int .i64 (errN q nt n)]) ∧ (errN q nt n == 0) = z ∧ (∀ w, (binOp BinOp.neq 41 (.pointer a) (.pointer none)).run Try.prog w = .ok (.bool z) w) ∧ Below w.heap.size w w' := by
  subst hl
  refine (a_new_any q w nt p cap xs hx).mono ?_
  rintro e w' ⟨⟨h0, b, rfl⟩ | ⟨h0, rfl⟩, hb⟩
  · exact ⟨some ⟨b, 0, none⟩, true, by rw [h0], by rw [h0]; rfl, fun w => by kernel_rfl, hb⟩
  · exact ⟨none, false, rfl, by simpa using h0, fun w => by kernel_rfl, hb⟩
/-- What region 6 holds. -/
def HG (w0 : World) (lo1 hi1 lo2 hi2 b rb : Nat) (q : Cfg) (A : Int → List Int) (V : Nat → Value) (X : Nat → List Int) (w : World) : Prop := Is lo1 hi1 w b A ∧ Ref lo2 hi2 w rb q A V X 0 0 0 ∧ Below w0.heap.size w0 w
abbrev SG (w0 : World) (lo1 hi1 lo2 hi2 b rb : Nat) (q : Cfg) (A : Int → List Int) (V : Nat → Value) (X : Nat → List Int) (w : World) : Prop :=
  w.cell? ⟨rb, 13, none⟩ = some (V 0) ∧ w.cell? ⟨rb, 14, none⟩ = some (V 1) ∧ w.cell? ⟨rb, 15, none⟩ = some (.int .u64 0) ∧ w.cell? ⟨rb, 16, none⟩ = some (.int .u64 0) ∧ w.cell? ⟨rb, 17, none⟩ = some (.int .u64 0) ∧ w.cell? ⟨rb, 18, none⟩ = some (V 2) ∧ w.cell? ⟨rb, 19, none⟩ = some (V 3) ∧ w.cell? ⟨rb, 20, none⟩ = some (V 4) ∧ HG w0 lo1 hi1 lo2 hi2 b rb q A V X w
section
variable {w0 w w' : World} {lo1 hi1 lo2 hi2 b rb : Nat} {q : Cfg} {A : Int → List Int} {V : Nat → Value} {X : Nat → List Int}
theorem sg_of (h : HG w0 lo1 hi1 lo2 hi2 b rb q A V X w) : SG w0 lo1 hi1 lo2 hi2 b rb q A V X w :=
  ⟨h.2.1.r.bx.cell 13, h.2.1.r.bx.cell 14, h.2.1.r.bx.cell 15, h.2.1.r.bx.cell 16, h.2.1.r.bx.cell 17, h.2.1.r.bx.cell 18, h.2.1.r.bx.cell 19, h.2.1.r.bx.cell 20, h⟩
theorem sg_hg (h : SG w0 lo1 hi1 lo2 hi2 b rb q A V X w) : HG w0 lo1 hi1 lo2 hi2 b rb q A V X w := h.2.2.2.2.2.2.2.2
theorem sg_is (h : SG w0 lo1 hi1 lo2 hi2 b rb q A V X w) : Is lo1 hi1 w b A := (sg_hg h).1
theorem sg_keep (h : SG w0 lo1 hi1 lo2 hi2 b rb q A V X w) (hb : Below w.heap.size w w') : SG w0 lo1 hi1 lo2 hi2 b rb q A V X w' :=
  sg_of ⟨(sg_hg h).1.below hb, (sg_hg h).2.1.of_blocks (Nat.le_trans (sg_hg h).2.1.top hb.size) (fun x h1 h2 => hb.block x (Nat.lt_of_lt_of_le h2 (sg_hg h).2.1.top)), (sg_hg h).2.2.trans (hb.mono (sg_hg h).2.2.size)⟩
theorem sg_drew (h : HG w0 lo1 hi1 lo2 hi2 b rb q A V X w) : SG w0 lo1 hi1 lo2 hi2 b rb q A V X w.drew := sg_keep (sg_of h) (below_drewN (Below.refl _ w) 1)
theorem sg_stay (hlo : w0.heap.size ≤ lo1) (hmid : hi1 ≤ lo2) (h : SG w0 lo1 hi1 lo2 hi2 b rb q A V X w) (hi : Is lo1 hi1 w' b A) (hs : Stay lo1 hi1 w w') : SG w0 lo1 hi1 lo2 hi2 b rb q A V X w' :=
  sg_of ⟨hi, (sg_hg h).2.1.of_blocks (Nat.le_trans (sg_hg h).2.1.top hs.size) (fun x h1 h2 => hs.block x (Nat.lt_of_lt_of_le h2 (sg_hg h).2.1.top) (.inr (by omega))), (sg_hg h).2.2.trans (hs.below hlo (sg_hg h).2.2.size)⟩
theorem k_both {base : Nat} {vd vo vl vh vn : Value} (hl : ∀ k : Int, (A k).length ≤ 1000) (ho : OwnU w base vd (A 1) ∧ OwnU w base vo (A 2) ∧ OwnU w base vl (A 6) ∧ OwnU w base vh (A 7) ∧ OwnU w base vn (A 8)) (h : SG w0 lo1 hi1 lo2 hi2 b rb q A V X w) :
    Calls Try.prog 28 #[imgV vd vo 0 0 0 vl vh vn, imgV (V 0) (V 1) 0 0 0 (V 2) (V 3) (V 4)] w fun e w' => e = .returned (.bool true) ∧ Below w.heap.size w w' := by
  have r := (sg_hg h).2.1
  exact k_image w 0 0 0 vd vo vl vh vn (V 0) (V 1) (V 2) (V 3) (V 4) (A 1) (A 2) (A 6) (A 7) (A 8) (rd_own ho.1) (r.a1 ▸ rd_own (r.r.own 0 (by decide))) (rd_own ho.2.1) (r.a2 ▸ rd_own (r.r.own 1 (by decide))) (rd_own ho.2.2.1) (r.a6 ▸ rd_own (r.r.own 2 (by decide))) (rd_own ho.2.2.2.1) (r.a7 ▸ rd_own (r.r.own 3 (by decide))) (rd_own ho.2.2.2.2) (r.a8 ▸ rd_own (r.r.own 4 (by decide))) (hl 1) (hl 2) (hl 6) (hl 7) (hl 8)
end

theorem readable : ∀ t ∈ Try.f7.params.toList, Try.prog.readableRec t = true ∧ t < Try.prog.types.size := by
  have h : (Try.f7.params.toList.all fun t => Try.prog.readableRec t && decide (t < Try.prog.types.size)) = true := by kernel_rfl
  intro t ht
  have := List.all_eq_true.1 h t ht
  simpa using this

/-! The walk. -/
theorem walk (w : World) (x0_0 x0_1 x0_2 x0_3 x0_4 : Int) (wx0_0 : LayS.InI x0_0) (wx0_1 : LayS.InI x0_1) (wx0_2 : LayS.InI x0_2) (wx0_3 : LayS.InI x0_3) (wx0_4 : LayS.InI x0_4) (a1 : Int) (w1 : (Lit.int .i64 a1).wf = true) (q2 : LayS.Cfg) (A3 : Option Addr) (n3 c3 : Nat) (z3 : List Int) (l3 : n3 ≤ c3) (m3 : c3 ≤ maxLen) (s3 : Ints .u64 w A3 n3 z3) (a4 : Int) (w4 : (Lit.int .i64 a4).wf = true) :
    Calls Try.prog 7 #[.agg #[.int .i64 x0_0, .int .i64 x0_1, .int .i64 x0_2, .int .i64 x0_3, .int .i64 x0_4], .int .i64 a1, LayS.cfgV q2, .slice A3 n3 c3, .int .i64 a4] w fun e w' => e = .returned (.bool true) ∧ Kept w w' := by
  show Calls _ _ #[.agg _, _, _, _, _] _ _
  clear wx0_0 wx0_1 wx0_2 wx0_3 wx0_4
  have HB0 := Lib.hid (below_new2 w (.cells #[.int .i64 x0_0, .int .i64 x0_1, .int .i64 x0_2, .int .i64 x0_3, .int .i64 x0_4] 28) (.cells (cells q2) TC))
  have HM0 := Lib.hid (mem_new1 w (.cells #[.int .i64 x0_0, .int .i64 x0_1, .int .i64 x0_2, .int .i64 x0_3, .int .i64 x0_4] 28) TC (cells q2))
  obtain ⟨hzl, hzr⟩ := rd_ints (c := c3) s3
  have HZ := Lib.hid hzr
  have HZL := Lib.hid hzl
  clear s3 hzl hzr
  by_cases hbig : (70 : Int) < n3
  · go_enter Try.func7, Try.ntmps7
    go_wp2_with fail
    refine (CelA.l_awake _).mono ?_
    rintro e w3 ⟨rfl, hb1⟩
    have HB1 := Lib.hid (below_trans2 HB0.out hb1)
    clear hb1
    go_wp2
    go_ret
    exact ⟨rfl, .of_below HB1.out⟩
  · have hn70 : (n3 : Int) ≤ 70 := by omega
    clear hbig
    go_enter Try.func7, Try.ntmps7
    go_upto_region 4 with (go_at_call 25; refine (l_start _ _ _ _ _ _ _).mono ?_; rintro e w1' ⟨q, n, no, nt, lo1, hi1, lo2, hi2, b, rb, rfl, hst⟩)
    have HB1 := Lib.hid (below_trans2 HB0.out hst.old)
    have HM1 := Lib.hid (HM0.out.below hst.old HM0.out.lt)
    have HST := Lib.hid hst
    obtain ⟨d0, d1, d2, d3, d4, d5, d6, d7, d8, d9, d10, d11, d12⟩ := box_cells HM1.out
    have hnew := new_p q2 w1' a4 A3 n3 c3 z3 HZL.out (rd_below HZ.out HB1.out)
    clear hst HB0 HM0
    go_upto_region 5 with (go_at_call 26; refine hnew.mono ?_; rintro e w2' ⟨pa, z, rfl, hz, hnp, hb2⟩)
    have HM2 := Lib.hid (HM1.out.below hb2 HM1.out.lt)
    have HB2 := Lib.hid (below_trans2 HB1.out hb2)
    have HI2 := Lib.hid (HST.out.mem.below hb2)
    have HR2 := Lib.hid (HST.out.ref.below hb2)
    clear hb2 hnew d0 d1 d2 d3 d4 d5 d6 d7 d8 d9 d10 d11 d12
    obtain ⟨d0, d1, d2, d3, d4, d5, d6, d7, d8, d9, d10, d11, d12⟩ := box_cells HM2.out
    have hchk := r_check8 q2 w2' a4 A3 n3 c3
    obtain ⟨E, hE⟩ : ∃ E, errN q2 a4 n3 = E := ⟨_, rfl⟩
    rw [hE] at hz hchk
    first | rw [hE] | skip
    clear hE
    go_upto_region 6 with (go_at_call 27; refine hchk.mono ?_; rintro e w3' ⟨rfl, hb3⟩)
    have HB3 := Lib.hid (below_trans2 HB2.out hb3)
    have hI3 := HI2.out.below hb3
    have hR3 := HR2.out.below hb3
    obtain ⟨A, hA⟩ : ∃ A, A0 q n no nt (gen q.w.toNat) = A := ⟨_, rfl⟩
    have h3 : A 3 = [0] := by rw [← hA]; rfl
    have h4 : A 4 = [0] := by rw [← hA]; rfl
    have h5 : A 5 = [0] := by rw [← hA]; rfl
    have hl : ∀ k : Int, (A k).length ≤ 1000 := by
      intro k
      have hm := HST.out.made
      have b1 := (blk_in q).2
      have b2 := HST.out.blk
      have b3 := HST.out.m.out
      have b4 := HST.out.orc
      have b5 := HST.out.t2
      unfold Made at hm
      rw [← hA]
      unfold A0
      repeat' split
      all_goals simp only [List.length_append, List.length_replicate, List.length_cons, List.length_nil, hdL, nxL, List.length_map, List.length_range]
      all_goals omega
    rw [hA] at hI3 hR3
    obtain ⟨V, X, c, t, s, hr⟩ := hR3
    have ec : c = 0 := by have := hr.a3; rw [h3] at this; injection this with h; exact h.symm
    have et : t = 0 := by have := hr.a4; rw [h4] at this; injection this with h; exact h.symm
    have es : s = 0 := by have := hr.a5; rw [h5] at this; injection this with h; exact h.symm
    subst ec
    subst et
    subst es
    have hlo : w.heap.size ≤ lo1 := Nat.le_trans (by have := HB1.out.size; have := (below_new2 w (.cells #[.int .i64 x0_0, .int .i64 x0_1, .int .i64 x0_2, .int .i64 x0_3, .int .i64 x0_4] 28) (.cells (cells q2) TC)).size; omega) HST.out.lo
    have hmid := HST.out.mid
    have hg : HG w lo1 hi1 lo2 hi2 b rb q A V X w3' := ⟨hI3, hr, HB3.out⟩
    clear hA hb3 hchk hI3 hr d0 d1 d2 d3 d4 d5 d6 d7 d8 d9 d10 d11 d12
    go_region_held3 (SG w lo1 hi1 lo2 hi2 b rb q A V X) (first | exact sg_drew hg | exact sg_stay hlo hmid (by assumption) (by assumption) (by assumption) | exact sg_keep (by assumption) (by assumption)) (first
      | (go_at_call 29; (with_reducible refine (m_image lo1 hi1 _ b A (sg_is (by assumption)) 0 0 0 h3 h4 h5).mono ?_); rintro e w6 ⟨vd, vo, vl, vh, vn, rfl, hown6, hI6, hS6⟩)
      | (go_at_call 28; (with_reducible refine (k_both hl (by assumption) (by assumption)).mono ?_); rintro e w7 ⟨rfl, hb7⟩)
      | (go_at_call 24; (with_reducible refine (CelA.l_awake _).mono ?_); rintro e w8 ⟨rfl, hb8⟩))
    rename_i hH
    have HBF := Lib.hid (sg_hg hH).2.2
    clear hH hg
    go_wp2
    go_ret
    exact ⟨rfl, .of_below HBF.out⟩

/-! The row's step. -/
set_option maxRecDepth 100000 in
theorem lifted (os : Os) (started : os.Started) (H : Type) (enc : TypeId × Value → H) :
    ReturnsInHanded {} Try.checked os 7 .any (Rows.cellsBeginSpec.pre6 enc Try.prog Try.f7 Rows.cellsBeginRow.domain false) (Rows.cellsBeginSpec.post enc Try.prog Try.f7 false true false false) := by
  refine returnsInHanded_of_change (C := Try.checked) own started (by kernel_rfl) Try.func7
    (ChangeSpec.witness6 (enc := enc) (C := Try.checked) false ⟨#[], #[.agg #[.int .i64 0, .int .i64 0, .int .i64 0, .int .i64 0, .int .i64 0], .int .i64 0, .agg #[.int .i64 0, .int .i64 0, .int .i64 0, .int .i64 0, .int .i64 0, .int .i64 0, .int .i64 0, .int .i64 0, .int .i64 0, .int .i64 0, .int .i64 0, .int .i64 0, .bool false], .slice none 0 0, .int .i64 0], []⟩ 8 (by kernel_rfl) (by kernel_rfl) (by kernel_rfl) (by kernel_rfl)) ?_
  intro W base args ds gs before hval0 hW hcnd _
  have hval : ∀ (j : Nat) t v, Try.f7.params[j]? = some t → args[j]? = some v → Value.okWide Try.prog W .any base t v := hval0
  have hW' := hW
  obtain ⟨p, q, hA0, hV, rfl, hfz, hnd⟩ := hW
  have hA : DataW.TrodAll enc Try.prog W 0 (fun _ => true) true Try.f7.params.toList args.toList ds p := hA0
  rw [Try.params7] at hA hval
  obtain ⟨v0, vs0, d0, ds0, p0, q0, hargs, rfl, rfl, h0, r0⟩ := trodAll_cons hA
  obtain ⟨v1, vs1, d1, ds1, p1, q1, rfl, rfl, rfl, h1, r1⟩ := trodAll_cons r0
  obtain ⟨v2, vs2, d2, ds2, p2, q2, rfl, rfl, rfl, h2, r2⟩ := trodAll_cons r1
  obtain ⟨v3, vs3, d3, ds3, p3, q3, rfl, rfl, rfl, h3, r3⟩ := trodAll_cons r2
  obtain ⟨v4, vs4, d4, ds4, p4, q4, rfl, rfl, rfl, h4, r4⟩ := trodAll_cons r3
  obtain ⟨rfl, rfl, rfl⟩ := trodAll_nil r4
  obtain rfl : args = #[v0, v1, v2, v3, v4] := by cases args; simp_all
  obtain ⟨rfl, rfl⟩ := trodVars_none hV
  have hk : ∀ W', Kept W W' → Rows.cellsBeginSpec.post enc Try.prog Try.f7 false true false false W #[v0, v1, v2, v3, v4] (.bool true) W' := fun W' hb =>
    post_law laidOut readable rfl Try.underlying4 rfl hW' rfl hb
  clear hA0 hval0 hA hW'
  obtain ⟨x0_0, x0_1, x0_2, x0_3, x0_4, rfl, wx0_0, wx0_1, wx0_2, wx0_3, wx0_4⟩ := LayO.open_arr5 (hval 0 28 v0 rfl rfl) h0
  obtain ⟨a1, rfl, rfl, rfl, w1⟩ := open_int Try.underlying3 (hval 1 3 v1 rfl rfl) h1
  obtain ⟨q2, rfl⟩ := LayO.open_config (hval 2 24 v2 rfl rfl) h2
  obtain ⟨A3, n3, c3, z3, rfl, l3, m3, s3⟩ := open_slice Try.underlying40 Try.underlying25 cells25 (hval 3 40 v3 rfl rfl) h3
  obtain ⟨a4, rfl, rfl, rfl, w4⟩ := open_int Try.underlying3 (hval 4 3 v4 rfl rfl) h4
  refine (walk W x0_0 x0_1 x0_2 x0_3 x0_4 wx0_0 wx0_1 wx0_2 wx0_3 wx0_4 a1 w1 q2 A3 n3 c3 z3 l3 m3 s3 a4 w4).mono fun e W' ⟨he, hg⟩ => ?_
  subst he
  exact ⟨_, rfl, hk W' hg⟩

theorem over : Rows.cellsBeginRow.holds Try.pinned (OpenSpec.ofChange Rows.cellsBeginSpec) :=
  OpenClaim.holds_of_wide 7 Try.f7 rfl rfl rfl rfl rfl rfl rfl ⟨rfl, rfl, rfl, rfl, rfl⟩ rfl rfl rfl rfl rfl (by kernel_rfl) Try.func7 (by kernel_rfl)
    (of_decide_eq_true (by kernel_rfl)) (by unfold Func.isWrapper; first | (rw [if_pos (by decide +kernel)]; kernel_rfl) | (rw [if_neg (by decide +kernel)]; exact ⟨rfl, rfl⟩))
    (fun os started H enc _ => lifted os started H enc)

/-- The statement. -/
theorem proved : Rows.CellsBeginSaid :=
  over
#print axioms proved
end Go.Proofs.Ytbedgdpcopghfaa.cellsBegin
