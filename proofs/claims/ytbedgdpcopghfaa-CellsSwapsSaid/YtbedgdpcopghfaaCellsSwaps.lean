/-
  Proved: of several swaps from the same value to other values exactly the first one is done, in cells of any made configuration. No condition.
-/
import Derived.Test.YtbedgdpcopghfaaRows
import Derived.WalkKit
import Derived.ProofKit
import Derived.OpenShut
import Derived.Test.YtbedgdpcopghfaaFrame
import Derived.Test.YtbedgdpcopghfaaLayO
import Derived.Test.YtbedgdpcopghfaaCelB
namespace Go.Proofs.Ytbedgdpcopghfaa.cellsSwaps
open Go.ChangeShapes Go.WideShapes Go.ChangeAt Go.RowKit
open LawFrame
open Go.ChangeMaps (open_string)
set_option linter.unusedVariables false

theorem own : ownKnob Try.prog.godebug = none := by kernel_rfl
theorem laidOut : laidOutB Try.prog = true := by kernel_rfl
theorem cells25 : Try.prog.cellsOf 25 = 1 := by kernel_rfl

open PlainT BlkW LayS LayA LayH LayK LayO LayP CelS CelM CelP CelV CelN CelO CelF CelA CelB
set_option maxHeartbeats 4000000
set_option maxRecDepth 100000
theorem gen_get {m i : Nat} (h : i < m) (n : Nat) : (gen m ++ List.replicate n 0).getD i 0 = 10 * (i : Int) + 1 := by
  rw [List.getD_eq_getElem?_getD, List.getElem?_append_left (by rw [gen_len]; exact h)]
  simp [gen, h]
theorem wf_u64 {x : Int} (h : (Lit.int .u64 x).wf = true) : 0 ≤ x ∧ x ≤ 18446744073709551615 := by
  have h2 : IntKind.u64.min ≤ x ∧ x ≤ IntKind.u64.max := by simpa [Lit.wf] using h
  rw [show IntKind.u64.min = 0 by decide, show IntKind.u64.max = 18446744073709551615 by decide] at h2
  exact h2
theorem ints_at {w : World} {A : Option Addr} {n : Nat} {z : List Int} (h : Ints .u64 w A n z) {k : Nat} (hk : k < n) : ∃ b off x, A = some ⟨b, off, none⟩ ∧ b < w.heap.size ∧ w.cell? ⟨b, off + k, none⟩ = some (.int .u64 x) ∧ 0 ≤ x ∧ x ≤ 18446744073709551615 := by
  obtain ⟨h1, h2, h3⟩ := h
  obtain ⟨b, off, rfl, hb, hc⟩ := h3 (by omega)
  refine ⟨b, off, _, rfl, hb, hc k hk, ?_⟩
  have hm : z.getD k 0 ∈ z := by
    rw [List.getD_eq_getElem?_getD, List.getElem?_eq_getElem (by omega)]
    exact List.getElem_mem _
  exact wf_u64 (h2 _ hm)
theorem ints_keep {w w' : World} {A : Option Addr} {n : Nat} {z : List Int} (h : Ints .u64 w A n z) (hb : Below w.heap.size w w') : Ints .u64 w' A n z := by
  obtain ⟨h1, h2, h3⟩ := h
  refine ⟨h1, h2, fun h0 => ?_⟩
  obtain ⟨b, off, rfl, hlt, hc⟩ := h3 h0
  exact ⟨b, off, rfl, Nat.lt_of_lt_of_le hlt hb.size, fun i hi => (World.cell?_of_block (hb.block b hlt)).trans (hc i hi)⟩
theorem set_get (xs : List Int) {i : Nat} (h : i < xs.length) (v : Int) : (xs.set i v).getD i 0 = v := by
  rw [List.getD_eq_getElem?_getD, List.getElem?_set_self h]; rfl
/-- What the loop carries. -/
structure LS (w0 : World) (lo hi b i L : Nat) (old : Int) (k : Nat) (now : Int) (w : World) : Prop where
  ex : ∃ A : Int → List Int, Is lo hi w b A ∧ (A 1).length = L ∧ (A 1).getD i 0 = now
  first : k = 0 → now = old
  later : 1 ≤ k → now ≠ old
  lo : w0.heap.size ≤ lo
  old : Below w0.heap.size w0 w
/-- The argument's row, far from the cells. -/
structure ZZ (w0 : World) (lo : Nat) (A : Option Addr) (n : Nat) (z : List Int) (w : World) : Prop where
  z : Ints .u64 w0 A n z
  old : Below w0.heap.size w0 w
  lo : w0.heap.size ≤ lo
theorem zz_at {w0 w : World} {lo : Nat} {A : Option Addr} {n : Nat} {z : List Int} (h : ZZ w0 lo A n z w) {k : Nat} (hk : k < n) : ∃ b off x, A = some ⟨b, off, none⟩ ∧ b < w0.heap.size ∧ w.cell? ⟨b, off + k, none⟩ = some (.int .u64 x) ∧ 0 ≤ x ∧ x ≤ 18446744073709551615 := by
  obtain ⟨b, off, x, hA, hb, hc, h0, h1⟩ := ints_at h.z hk
  exact ⟨b, off, x, hA, hb, (World.cell?_of_block (h.old.block b hb)).trans hc, h0, h1⟩

theorem readable : ∀ t ∈ Try.f10.params.toList, Try.prog.readableRec t = true ∧ t < Try.prog.types.size := by
  have h : (Try.f10.params.toList.all fun t => Try.prog.readableRec t && decide (t < Try.prog.types.size)) = true := by kernel_rfl
  intro t ht
  have := List.all_eq_true.1 h t ht
  simpa using this

/-! The walk. -/
theorem walk (w : World) (x0_0 x0_1 x0_2 x0_3 x0_4 : Int) (wx0_0 : LayS.InI x0_0) (wx0_1 : LayS.InI x0_1) (wx0_2 : LayS.InI x0_2) (wx0_3 : LayS.InI x0_3) (wx0_4 : LayS.InI x0_4) (a1 : Int) (w1 : (Lit.int .i64 a1).wf = true) (A2 : Option Addr) (n2 c2 : Nat) (z2 : List Int) (l2 : n2 ≤ c2) (m2 : c2 ≤ maxLen) (s2 : Ints .u64 w A2 n2 z2) :
    Calls Try.prog 10 #[.agg #[.int .i64 x0_0, .int .i64 x0_1, .int .i64 x0_2, .int .i64 x0_3, .int .i64 x0_4], .int .i64 a1, .slice A2 n2 c2] w fun e w' => e = .returned (.bool true) ∧ Kept w w' := by
  show Calls _ _ #[.agg _, _, _] _ _
  clear wx0_0 wx0_1 wx0_2 wx0_3 wx0_4 w1
  have HB0 := Lib.hid (below_new w (.cells #[.int .i64 x0_0, .int .i64 x0_1, .int .i64 x0_2, .int .i64 x0_3, .int .i64 x0_4] 28))
  have HZ := Lib.hid s2
  clear s2
  by_cases hbig : (30 : Int) < n2
  · go_enter Try.func10, Try.ntmps10
    go_wp2_with fail
    refine (CelA.l_awake _).mono ?_
    rintro e w3 ⟨rfl, hb1⟩
    have HB1 := Lib.hid (below_trans2 HB0.out hb1)
    clear hb1
    go_wp2
    go_ret
    exact ⟨rfl, .of_below HB1.out⟩
  · have hn30 : (n2 : Int) ≤ 30 := by omega
    clear hbig
    go_enter Try.func10, Try.ntmps10
    go_upto_region 6 with (go_at_call 25; refine (l_start _ _ _ _ _ _ _).mono ?_; rintro e w1 ⟨q, n, no, nt, lo1, hi1, lo2, hi2, b, rb, rfl, hst⟩)
    have HST := Lib.hid hst
    have HB1 := Lib.hid (below_trans2 HB0.out hst.old)
    have HLO : Hid (w.heap.size ≤ lo1) := Lib.hid (Nat.le_trans HB0.out.size hst.lo)
    obtain ⟨V, X, rc, rt, rs, hr⟩ := hst.ref
    have q4 : 4 ≤ q.w := hst.made.1
    have q12 : q.w ≤ 12 := hst.made.2.1
    obtain ⟨m, hm⟩ : ∃ m : Nat, q.w = m := ⟨q.w.toNat, by omega⟩
    have hgm : gen q.w.toNat = gen m := by rw [hm]; rfl
    have hX : X 0 = gen m ++ List.replicate n 0 := by rw [← hr.a1, hgm]; rfl
    have c0 : w1.cell? ⟨rb, 0, none⟩ = some (.int .i64 q.w) := hr.r.bx.cell 0
    have c13 : w1.cell? ⟨rb, 13, none⟩ = some (V 0) := hr.r.bx.cell 13
    obtain ⟨rg, rcap, rcur, hv0, _, _, _, hrc⟩ := own_cells (hr.r.own 0 (by decide)) (by rw [hX, List.length_append, gen_len]; omega)
    rw [hv0] at c13
    have hl0 : (X 0).length = m + n := by rw [hX, List.length_append, gen_len, List.length_replicate]
    rw [hl0] at c13 hrc
    have HX := Lib.hid hX
    have HRC := Lib.hid hrc
    have HM := Lib.hid hm
    have HGM := Lib.hid hgm
    have hI0 := hst.mem
    rw [hgm] at hI0
    have HI0 := Lib.hid hI0
    clear hst hr hX hv0 hl0 hrc hm hgm hI0 HB0
    go_upto_region 7 with (go_at_call 16; refine (k_place_ex _ _ (by omega) (by omega) _).mono ?_; rintro e w2 ⟨p, p0, p1, rfl, rfl⟩)
    obtain ⟨i, hi⟩ : ∃ i : Nat, p = i := ⟨p.toNat, by omega⟩
    have him : i < m := by have := HM.out; omega
    have hold : w1.cell? ⟨rg, i, none⟩ = some (.int .u64 (10 * (i : Int) + 1)) := by
      have := HRC.out i (by omega)
      rw [this, HX.out]
      unfold us
      rw [List.getElem?_map, List.getElem?_append_left (by rw [gen_len]; exact him)]
      simp [gen, him]
    rw [hi]
    have hi12 : i ≤ 12 := by have := HM.out; omega
    have hin : (i : Int) < (m : Int) + n := by omega
    have hip : (0 : Int) ≤ i := by omega
    obtain ⟨old, hod⟩ : ∃ old : Int, 10 * (i : Int) + 1 = old := ⟨_, rfl⟩
    have ho0 : 0 ≤ old := by omega
    have ho1 : old ≤ 1000 := by omega
    rw [hod] at hold
    have HOD := Lib.hid hod
    clear hi p0 p1 hod
    go_wp2_with fail
    go_loopw [12, 13] (fun nv kv wr => ∃ (k : Nat) (now : Int), k ≤ n2 ∧ kv = .int .i64 k ∧ nv = .int .u64 now ∧ LS w lo1 hi1 b i (m + n) old k now wr ∧ ZZ w lo1 A2 n2 z2 wr) (fun _ kv _ => n2 - (intOf kv).toNat)
    case atStart => exact ⟨0, old, by omega, rfl, rfl, ⟨⟨_, HI0.out, by show (gen m ++ List.replicate n 0).length = _; rw [List.length_append, gen_len, List.length_replicate], (gen_get him n).trans HOD.out⟩, fun _ => rfl, fun h => by omega, HLO.out, HB1.out⟩, HZ.out, HB1.out, HLO.out⟩
    case round =>
      obtain ⟨k, now, hk, rfl, rfl, hls, hzz⟩ := hrel
      obtain ⟨⟨A, hI, hAl, hAn⟩, hfst, hltr, _, hbel⟩ := hls
      have HAL := Lib.hid hAl
      have HB := Lib.hid hbel
      have HZZ := Lib.hid hzz
      clear hbel hzz
      by_cases hlt : k < n2
      · have hlk : (k : Int) < n2 := by omega
        obtain ⟨ib, io, x, rfl, hib, hcx, x0, x1⟩ := zz_at HZZ.out hlt
        obtain ⟨v, hv, hvo, hv0, hv1⟩ : ∃ v : Int, (if x = old then IntKind.u64.wrap (x + 1) else x) = v ∧ v ≠ old ∧ 0 ≤ v ∧ v ≤ 18446744073709551615 := by
          by_cases hx : x = old
          · exact ⟨old + 1, by rw [if_pos hx, hx]; exact IntWalk.u64_in _ (by omega), by omega, by omega, by omega⟩
          · exact ⟨x, by rw [if_neg hx], hx, x0, x1⟩
        have HNE := Lib.hid hvo
        by_cases hk0 : k = 0
        · obtain rfl := hfst hk0
          have hkb : ((k : Int) == 0) = true := by rw [beq_iff_eq]; omega
          clear hfst hltr hvo hk0
          by_cases hx : x = now
          · have hw : IntKind.u64.wrap (x + 1) = v := by rw [← hv, if_pos hx]
            have hxb : (x == now) = true := by simpa using hx
            clear hv hx
            go_wp2_with fail
            refine (m_swap lo1 hi1 wr b A hI 1 (by decide) i (by rw [hAl]; omega) now hAn now v v true (Lib.hid ((if_pos rfl).symm)) (Lib.hid (by simp))).mono ?_
            rintro e w5 ⟨rfl, hI5, hS5⟩
            have HI5 := Lib.hid hI5
            have HS5 := Lib.hid hS5
            clear hI5 hS5
            go_wp2_with fail
            go_roundw
            case rel =>
              refine ⟨k + 1, v, by omega, by go_num, rfl, ⟨⟨_, HI5.out.below (below_new _ _), by rw [upd_len]; exact HAL.out, by simp only [upd, if_pos]; exact set_get _ (by rw [HAL.out]; omega) _⟩, fun h => by omega, fun _ => HNE.out, HLO.out, (HB.out.trans (HS5.out.below HLO.out HB.out.size)).alloc (by have := HS5.out.size; have := HB.out.size; omega) _⟩, ?_⟩
              exact ⟨HZZ.out.z, (HB.out.trans (HS5.out.below HLO.out HB.out.size)).alloc (by have := HS5.out.size; have := HB.out.size; omega) _, HLO.out⟩
            case measure => simp [intOf]; omega
          · obtain rfl : v = x := by rw [← hv, if_neg hx]
            have hxb : (v == now) = false := by simpa using hx
            clear hv hx
            go_wp2_with fail
            refine (m_swap lo1 hi1 wr b A hI 1 (by decide) i (by rw [hAl]; omega) now hAn now v v true (Lib.hid ((if_pos rfl).symm)) (Lib.hid (by simp))).mono ?_
            rintro e w5 ⟨rfl, hI5, hS5⟩
            have HI5 := Lib.hid hI5
            have HS5 := Lib.hid hS5
            clear hI5 hS5
            go_wp2_with fail
            go_roundw
            case rel =>
              refine ⟨k + 1, v, by omega, by go_num, rfl, ⟨⟨_, HI5.out.below (below_new _ _), by rw [upd_len]; exact HAL.out, by simp only [upd, if_pos]; exact set_get _ (by rw [HAL.out]; omega) _⟩, fun h => by omega, fun _ => HNE.out, HLO.out, (HB.out.trans (HS5.out.below HLO.out HB.out.size)).alloc (by have := HS5.out.size; have := HB.out.size; omega) _⟩, ?_⟩
              exact ⟨HZZ.out.z, (HB.out.trans (HS5.out.below HLO.out HB.out.size)).alloc (by have := HS5.out.size; have := HB.out.size; omega) _, HLO.out⟩
            case measure => simp [intOf]; omega
        · have hno := hltr (by omega)
          have HNO := Lib.hid hno
          have hkb : ((k : Int) == 0) = false := by rw [beq_eq_false_iff_ne]; omega
          clear hfst hltr hvo
          by_cases hx : x = old
          · have hw : IntKind.u64.wrap (x + 1) = v := by rw [← hv, if_pos hx]
            have hxb : (x == old) = true := by simpa using hx
            clear hv hx
            go_wp2_with fail
            refine (m_swap lo1 hi1 wr b A hI 1 (by decide) i (by rw [hAl]; omega) now hAn old v now false (Lib.hid ((if_neg HNO.out).symm)) (Lib.hid (by have := HNO.out; simp [this]))).mono ?_
            rintro e w5 ⟨rfl, hI5, hS5⟩
            have HI5 := Lib.hid hI5
            have HS5 := Lib.hid hS5
            clear hI5 hS5
            go_wp2_with fail
            go_roundw
            case rel =>
              refine ⟨k + 1, now, by omega, by go_num, rfl, ⟨⟨_, HI5.out.below (below_new _ _), by rw [upd_len]; exact HAL.out, by simp only [upd, if_pos]; exact set_get _ (by rw [HAL.out]; omega) _⟩, fun h => by omega, fun _ => HNO.out, HLO.out, (HB.out.trans (HS5.out.below HLO.out HB.out.size)).alloc (by have := HS5.out.size; have := HB.out.size; omega) _⟩, ?_⟩
              exact ⟨HZZ.out.z, (HB.out.trans (HS5.out.below HLO.out HB.out.size)).alloc (by have := HS5.out.size; have := HB.out.size; omega) _, HLO.out⟩
            case measure => simp [intOf]; omega
          · obtain rfl : v = x := by rw [← hv, if_neg hx]
            have hxb : (v == old) = false := by simpa using hx
            clear hv hx
            go_wp2_with fail
            refine (m_swap lo1 hi1 wr b A hI 1 (by decide) i (by rw [hAl]; omega) now hAn old v now false (Lib.hid ((if_neg HNO.out).symm)) (Lib.hid (by have := HNO.out; simp [this]))).mono ?_
            rintro e w5 ⟨rfl, hI5, hS5⟩
            have HI5 := Lib.hid hI5
            have HS5 := Lib.hid hS5
            clear hI5 hS5
            go_wp2_with fail
            go_roundw
            case rel =>
              refine ⟨k + 1, now, by omega, by go_num, rfl, ⟨⟨_, HI5.out.below (below_new _ _), by rw [upd_len]; exact HAL.out, by simp only [upd, if_pos]; exact set_get _ (by rw [HAL.out]; omega) _⟩, fun h => by omega, fun _ => HNO.out, HLO.out, (HB.out.trans (HS5.out.below HLO.out HB.out.size)).alloc (by have := HS5.out.size; have := HB.out.size; omega) _⟩, ?_⟩
              exact ⟨HZZ.out.z, (HB.out.trans (HS5.out.below HLO.out HB.out.size)).alloc (by have := HS5.out.size; have := HB.out.size; omega) _, HLO.out⟩
            case measure => simp [intOf]; omega
      · obtain rfl : k = n2 := by omega
        clear hlt
        clear hfst hltr hk
        go_upto_region 21 with (go_at_call 35; refine (m_load lo1 hi1 wr b A hI 1 (by decide) i (by rw [hAl]; omega) now hAn).mono ?_; rintro e w5 ⟨rfl, hI5, hS5⟩; have HS5 := Lib.hid hS5; clear hI5 hS5)
        have HB5 := Lib.hid ((HB.out.trans (HS5.out.below HLO.out HB.out.size)).alloc (by have := HS5.out.size; have := HB.out.size; omega) (.cells #[.int .i64 1, .int .i64 1, .int .i64 i, .int .u64 now, .int .u64 now, .bool true] 63))
        go_wp2_with fail
        refine (CelA.l_awake _).mono ?_
        rintro e w6 ⟨rfl, hb6⟩
        have HB6 := Lib.hid (below_trans2 HB5.out hb6)
        clear hb6 HB5
        go_wp2
        go_ret
        exact ⟨rfl, .of_below HB6.out⟩

/-! The row's step. -/
set_option maxRecDepth 100000 in
theorem lifted (os : Os) (started : os.Started) (H : Type) (enc : TypeId × Value → H) :
    ReturnsInHanded {} Try.checked os 10 .any (Rows.cellsSwapsSpec.pre6 enc Try.prog Try.f10 Rows.cellsSwapsRow.domain false) (Rows.cellsSwapsSpec.post enc Try.prog Try.f10 false true false false) := by
  refine returnsInHanded_of_change (C := Try.checked) own started (by kernel_rfl) Try.func10
    (ChangeSpec.witness6 (enc := enc) (C := Try.checked) false ⟨#[], #[.agg #[.int .i64 0, .int .i64 0, .int .i64 0, .int .i64 0, .int .i64 0], .int .i64 0, .slice none 0 0], []⟩ 8 (by kernel_rfl) (by kernel_rfl) (by kernel_rfl) (by kernel_rfl)) ?_
  intro W base args ds gs before hval0 hW hcnd _
  have hval : ∀ (j : Nat) t v, Try.f10.params[j]? = some t → args[j]? = some v → Value.okWide Try.prog W .any base t v := hval0
  have hW' := hW
  obtain ⟨p, q, hA0, hV, rfl, hfz, hnd⟩ := hW
  have hA : DataW.TrodAll enc Try.prog W 0 (fun _ => true) true Try.f10.params.toList args.toList ds p := hA0
  rw [Try.params10] at hA hval
  obtain ⟨v0, vs0, d0, ds0, p0, q0, hargs, rfl, rfl, h0, r0⟩ := trodAll_cons hA
  obtain ⟨v1, vs1, d1, ds1, p1, q1, rfl, rfl, rfl, h1, r1⟩ := trodAll_cons r0
  obtain ⟨v2, vs2, d2, ds2, p2, q2, rfl, rfl, rfl, h2, r2⟩ := trodAll_cons r1
  obtain ⟨rfl, rfl, rfl⟩ := trodAll_nil r2
  obtain rfl : args = #[v0, v1, v2] := by cases args; simp_all
  obtain ⟨rfl, rfl⟩ := trodVars_none hV
  have hk : ∀ W', Kept W W' → Rows.cellsSwapsSpec.post enc Try.prog Try.f10 false true false false W #[v0, v1, v2] (.bool true) W' := fun W' hb =>
    post_law laidOut readable rfl Try.underlying4 rfl hW' rfl hb
  clear hA0 hval0 hA hW'
  obtain ⟨x0_0, x0_1, x0_2, x0_3, x0_4, rfl, wx0_0, wx0_1, wx0_2, wx0_3, wx0_4⟩ := LayO.open_arr5 (hval 0 28 v0 rfl rfl) h0
  obtain ⟨a1, rfl, rfl, rfl, w1⟩ := open_int Try.underlying3 (hval 1 3 v1 rfl rfl) h1
  obtain ⟨A2, n2, c2, z2, rfl, l2, m2, s2⟩ := open_slice Try.underlying40 Try.underlying25 cells25 (hval 2 40 v2 rfl rfl) h2
  refine (walk W x0_0 x0_1 x0_2 x0_3 x0_4 wx0_0 wx0_1 wx0_2 wx0_3 wx0_4 a1 w1 A2 n2 c2 z2 l2 m2 s2).mono fun e W' ⟨he, hg⟩ => ?_
  subst he
  exact ⟨_, rfl, hk W' hg⟩

theorem over : Rows.cellsSwapsRow.holds Try.pinned (OpenSpec.ofChange Rows.cellsSwapsSpec) :=
  OpenClaim.holds_of_wide 10 Try.f10 rfl rfl rfl rfl rfl rfl rfl ⟨rfl, rfl, rfl, rfl, rfl⟩ rfl rfl rfl rfl rfl (by kernel_rfl) Try.func10 (by kernel_rfl)
    (of_decide_eq_true (by kernel_rfl)) (by unfold Func.isWrapper; first | (rw [if_pos (by decide +kernel)]; kernel_rfl) | (rw [if_neg (by decide +kernel)]; exact ⟨rfl, rfl⟩))
    (fun os started H enc _ => lifted os started H enc)

/-- The statement. -/
theorem proved : Rows.CellsSwapsSaid :=
  over
#print axioms proved
end Go.Proofs.Ytbedgdpcopghfaa.cellsSwaps
