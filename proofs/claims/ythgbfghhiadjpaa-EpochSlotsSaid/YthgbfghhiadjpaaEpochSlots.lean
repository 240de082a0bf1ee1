/-
  Proved: an entered thread shows its snapshot in its slot, and no other slot changes. No condition.
-/
import Derived.Test.YthgbfghhiadjpaaRows
import Derived.WalkKit
import Derived.ProofKit
import Derived.OpenShut
import Derived.Test.YthgbfghhiadjpaaFrame
import Derived.Test.YthgbfghhiadjpaaEpoL
import Derived.Test.YthgbfghhiadjpaaLayO
import Derived.Deep.Cut
namespace Go.Proofs.Ythgbfghhiadjpaa.epochSlots
open Go.ChangeShapes Go.WideShapes Go.ChangeAt Go.RowKit
open LawFrame
open Go.ChangeMaps (open_string)
set_option linter.unusedVariables false

theorem own : ownKnob Try.prog.godebug = none := by kernel_rfl
theorem laidOut : laidOutB Try.prog = true := by kernel_rfl

open PlainT BlkW LayS LayA LayH LayK LayO LayP CelS CelM CelP CelV CelN CelO CelI CelF CelB LabD LabR LabP LabS WordC EpoA EpoF EpoS
set_option maxHeartbeats 4000000
set_option maxRecDepth 100000
theorem own4 {w : World} {B : Nat} {v : Value} {s : List Int} (h : OwnU w B v s) (hl : s.length = 4) : ∃ g cap, v = .slice (some ⟨g, 0, none⟩) 4 cap ∧ ∀ j : Nat, j < 4 → w.cell? ⟨g, j, none⟩ = some (.int .u64 (s.getD j 0)) := by
  obtain ⟨g, cap, cur, rfl, _, _, _, hc⟩ := own_cells h (by omega)
  rw [hl]
  refine ⟨g, cap, rfl, fun j hj => ?_⟩
  rw [hc j (by omega)]
  unfold us
  rw [List.getElem?_map, List.getD_eq_getElem?_getD, List.getElem?_eq_getElem (by omega)]
  rfl
theorem img5 (d o l h n : Value) (c t s : Int) (w : World) : (Instr.field 44 (imgV d o c t s l h n) 5).run Try.prog w = .ok l w := by kernel_rfl
/-- The snapshot, the slots and the box of a machine that has entered i steps far. -/
def sn (c : Int) (i : Nat) : Int := if i ≤ 1 then -1 else c
def sl (t : Nat) (c : Int) (i : Nat) : List Int := if i = 0 then [0, 0, 0, 0] else if i ≤ 2 then [0, 0, 0, 0].set t 1 else [0, 0, 0, 0].set t (c + 2)
theorem sl_len (t : Nat) (c : Int) (i : Nat) : (sl t c i).length = 4 := by
  unfold sl
  split
  · rfl
  · split <;> simp
theorem sl_no {t k : Nat} (h : k ≠ t) (c : Int) (i : Nat) : (sl t c i).getD k 0 = 0 := by
  have hz : ([0, 0, 0, 0] : List Int).getD k 0 = 0 := by
    match k with
    | 0 | 1 | 2 | 3 => rfl
    | n + 4 => rfl
  unfold sl
  split
  · exact hz
  · split <;> rw [List.getD_eq_getElem?_getD, List.getElem?_set_ne (Ne.symm h), ← List.getD_eq_getElem?_getD, hz]
theorem sl_one {t : Nat} (ht : t < 4) (c : Int) {i : Nat} (h : i < 2) : (sl t c (i + 1)).getD t 0 = 1 := by
  unfold sl
  rw [if_neg (by omega), if_pos (by omega), List.getD_eq_getElem?_getD, List.getElem?_set_self (by simpa using ht)]
  rfl
theorem sl_last {t : Nat} (ht : t < 4) (c : Int) : (sl t c 3).getD t 0 = c + 2 := by
  unfold sl
  rw [if_neg (by omega), if_neg (by omega), List.getD_eq_getElem?_getD, List.getElem?_set_self (by simpa using ht)]
  rfl
theorem el_step {w0 w : World} {lo hi b rb g : Nat} {q : Cfg} {c : Int} (t : Nat) (ht : t < 4) (i : Nat) (hi3 : i < 3) (h0 : 0 ≤ c) (h1 : c ≤ 1099511627776) (hg : g < lo ∨ hi ≤ g) (hgw : w0.heap.size ≤ g) (S : Sl w0 lo hi b rb q c (sl t c i) w) (M : Mem w g 123 #[.int .i64 i, .int .i64 t, .int .i64 (sn c i)]) :
    Calls Try.prog 41 #[.pointer (some ⟨g, 0, none⟩), .pointer (some ⟨b, 0, none⟩)] w fun e w' => (∃ v, e = .returned v) ∧ Sl w0 lo hi b rb q c (sl t c (i + 1)) w' ∧ Mem w' g 123 #[.int .i64 ((i + 1 : Nat) : Int), .int .i64 t, .int .i64 (sn c (i + 1))] ∧ Fr (PG lo hi g) w w' := by
  have : i = 0 ∨ i = 1 ∨ i = 2 := by omega
  rcases this with rfl | rfl | rfl
  · refine (l_e0 S hg hgw (-1) t (by simpa [sl] using ht) _ rfl M).mono ?_
    rintro e w' ⟨he, hS, hM, hF⟩
    exact ⟨⟨_, he⟩, hS, hM, hF⟩
  · refine (l_e1 S hg hgw t (-1) h0 h1 M).mono ?_
    rintro e w' ⟨he, hS, hM, hF⟩
    exact ⟨⟨_, he⟩, hS, hM, hF⟩
  · refine (l_e2 S hg hgw t (by rw [sl_len]; exact ht) _ rfl c h0 h1 M).mono ?_
    rintro e w' ⟨he, hS, hM, hF⟩
    refine ⟨⟨_, he⟩, ?_, hM, hF⟩
    have e2 : (sl t c 2).set t (c + 2) = sl t c 3 := by
      show ([0, 0, 0, 0].set t 1).set t (c + 2) = _
      rw [List.set_set]
      rfl
    rwa [e2] at hS

theorem readable : ∀ t ∈ Try.f14.params.toList, Try.prog.readableRec t = true ∧ t < Try.prog.types.size := by
  have h : (Try.f14.params.toList.all fun t => Try.prog.readableRec t && decide (t < Try.prog.types.size)) = true := by kernel_rfl
  intro t ht
  have := List.all_eq_true.1 h t ht
  simpa using this

/-! The walk. -/
theorem walk (w : World) (x0_0 x0_1 x0_2 x0_3 x0_4 : Int) (wx0_0 : LayS.InI x0_0) (wx0_1 : LayS.InI x0_1) (wx0_2 : LayS.InI x0_2) (wx0_3 : LayS.InI x0_3) (wx0_4 : LayS.InI x0_4) (a1 : Int) (w1 : (Lit.int .i64 a1).wf = true) (a2 : Int) (w2 : (Lit.int .u64 a2).wf = true) :
    Calls Try.prog 14 #[.agg #[.int .i64 x0_0, .int .i64 x0_1, .int .i64 x0_2, .int .i64 x0_3, .int .i64 x0_4], .int .i64 a1, .int .u64 a2] w fun e w' => e = .returned (.bool true) ∧ Kept w w' := by
  show Calls _ _ #[.agg _, _, _] _ _
  clear wx0_0 wx0_1 wx0_2 wx0_3 wx0_4
  have hb2 := bounds_u64 w2
  clear w1 w2
  have HB0 := Lib.hid (below_new w (.cells #[.int .i64 x0_0, .int .i64 x0_1, .int .i64 x0_2, .int .i64 x0_3, .int .i64 x0_4] 22))
  go_enter Try.func14, Try.ntmps14
  go_upto_region 2 with (go_at_call 34; refine (l_small _ _ _ _ _ _).mono ?_; rintro e w1 ⟨q, A, lo, hi, b, rb, rfl, hst⟩)
  obtain ⟨w0, hw0⟩ : ∃ w0, w.alloc (.cells #[.int .i64 x0_0, .int .i64 x0_1, .int .i64 x0_2, .int .i64 x0_3, .int .i64 x0_4] 22) = w0 := ⟨_, rfl⟩
  rw [hw0] at HB0 hst
  clear hw0
  have S0 := Lib.hid (sl_begun hst)
  have hlo := S0.out.lo
  have hle := S0.out.le
  clear hst
  have X1_gp := Lib.hid (Mem.new w1 TP #[.pointer (some ⟨b, 0, none⟩), .pointer (some ⟨rb, 0, none⟩)])
  have S1 := Lib.hid (S0.out.alloc (.cells #[.pointer (some ⟨b, 0, none⟩), .pointer (some ⟨rb, 0, none⟩)] TP))
  have hgp_top := S0.out.top
  obtain ⟨gp, hn⟩ : ∃ gp, w1.heap.size = gp := ⟨_, rfl⟩
  have Z_gp : Hid ((w1.alloc (.cells #[.pointer (some ⟨b, 0, none⟩), .pointer (some ⟨rb, 0, none⟩)] TP)).heap.size = gp + 1) := Lib.hid (by rw [size_new, hn])
  rw [hn] at X1_gp hgp_top 
  first | rw [hn] | skip
  clear hn 
  obtain ⟨W1, hW⟩ : ∃ W', w1.alloc (.cells #[.pointer (some ⟨b, 0, none⟩), .pointer (some ⟨rb, 0, none⟩)] TP) = W' := ⟨_, rfl⟩
  rw [hW] at X1_gp S1 Z_gp
  first | rw [hW] | skip
  clear hW
  clear S0
  have c1_gp_0 := Mem.cell X1_gp.out 0
  have c1_gp_1 := Mem.cell X1_gp.out 1
  simp at c1_gp_0 c1_gp_1
  go_upto_region 3 with (go_at_call 16; refine (k_place_ex _ _ (by omega) (by omega) _).mono ?_; rintro e w2 ⟨p, p0, p1, rfl, rfl⟩)
  obtain ⟨t, ht⟩ : ∃ t : Nat, p = t := ⟨p.toNat, by omega⟩
  subst ht
  have ht4 : t < 4 := by omega
  clear p0 p1
  go_upto_region 4 with (fail)
  obtain ⟨c, hc⟩ : ∃ c, a2 % 1099511627777 = c := ⟨_, rfl⟩
  rw [hc]
  have h0 : 0 ≤ c := by omega
  have h1 : c ≤ 1099511627776 := by omega
  clear hc hb2
  have hc := l_clock S1.out c
  go_upto_region 6 with (go_at_call 35; refine hc.mono ?_; rintro e w1' ⟨rfl, hS, hT⟩; have hF := Fr.of_stay (P := PI lo hi) hT (fun x a c => ⟨a, c⟩); clear hT)
  have X2_gp := Lib.hid (mem_fr X1_gp.out hF (by unfold PI; omega))
  have S2 := Lib.hid hS
  clear hc hF hS c1_gp_0 c1_gp_1 X1_gp S1
  have c2_gp_0 := Mem.cell X2_gp.out 0
  have c2_gp_1 := Mem.cell X2_gp.out 1
  simp at c2_gp_0 c2_gp_1
  go_upto_region 7 with (go_at_call 36; refine (e_new _ _).mono ?_; rintro e w3' ⟨rfl, rfl⟩)
  have X3_gp := Lib.hid (X2_gp.out.alloc (.cells #[.int .i64 0, .int .i64 t, .int .i64 (-1)] 123))
  have hge_gp : gp < w1'.heap.size := X2_gp.out.lt
  have X3_ge := Lib.hid (Mem.new w1' 123 #[.int .i64 0, .int .i64 t, .int .i64 (-1)])
  have S3 := Lib.hid (S2.out.alloc (.cells #[.int .i64 0, .int .i64 t, .int .i64 (-1)] 123))
  have hge_top := S2.out.top
  obtain ⟨ge, hn⟩ : ∃ ge, w1'.heap.size = ge := ⟨_, rfl⟩
  have Z_ge : Hid ((w1'.alloc (.cells #[.int .i64 0, .int .i64 t, .int .i64 (-1)] 123)).heap.size = ge + 1) := Lib.hid (by rw [size_new, hn])
  rw [hn] at X3_ge hge_top hge_gp
  first | rw [hn] | skip
  clear hn c2_gp_0 c2_gp_1
  obtain ⟨W3, hW⟩ : ∃ W', w1'.alloc (.cells #[.int .i64 0, .int .i64 t, .int .i64 (-1)] 123) = W' := ⟨_, rfl⟩
  rw [hW] at X3_gp X3_ge S3 Z_ge
  first | rw [hW] | skip
  clear hW
  clear X2_gp S2
  have c3_gp_0 := Mem.cell X3_gp.out 0
  have c3_gp_1 := Mem.cell X3_gp.out 1
  have c3_ge_0 := Mem.cell X3_ge.out 0
  have c3_ge_1 := Mem.cell X3_ge.out 1
  have c3_ge_2 := Mem.cell X3_ge.out 2
  simp at c3_gp_0 c3_gp_1 c3_ge_0 c3_ge_1 c3_ge_2
  go_wp2_with fail
  go_loopw [12] (fun iv wr => ∃ i : Nat, i ≤ 3 ∧ iv = .int .i64 i ∧ Sl w0 lo hi b rb q c (sl t c i) wr ∧ Mem wr gp TP #[.pointer (some ⟨b, 0, none⟩), .pointer (some ⟨rb, 0, none⟩)] ∧ Mem wr ge 123 #[.int .i64 i, .int .i64 t, .int .i64 (sn c i)]) (fun iv _ => 3 - (intOf iv).toNat)
  case atStart => exact ⟨0, by omega, rfl, S3.out, X3_gp.out, X3_ge.out⟩
  case round =>
    clear c3_gp_0 c3_gp_1 c3_ge_0 c3_ge_1 c3_ge_2 X3_gp X3_ge S3
    obtain ⟨i, hi3, rfl, hS, hP, hE⟩ := hrel
    have X3_gp := Lib.hid hP
    have X3_ge := Lib.hid hE
    have S3 := Lib.hid hS
    clear hS hP hE
    have c3_gp_0 := Mem.cell X3_gp.out 0
    have c3_gp_1 := Mem.cell X3_gp.out 1
    have c3_ge_0 := Mem.cell X3_ge.out 0
    have c3_ge_1 := Mem.cell X3_ge.out 1
    have c3_ge_2 := Mem.cell X3_ge.out 2
    simp at c3_gp_0 c3_gp_1 c3_ge_0 c3_ge_1 c3_ge_2
    by_cases hlt : i < 3
    · have hltI : (i : Int) < 3 := by omega
      have hc := el_step t ht4 i hlt h0 h1 (.inr (by omega)) (by omega) S3.out X3_ge.out
      go_upto_region 13 with (go_at_call 41; refine hc.mono ?_; rintro e w3' ⟨⟨v, rfl⟩, hS, hM, hF⟩)
      have X4_gp := Lib.hid (mem_fr X3_gp.out hF (by unfold PG; omega))
      have X4_ge : Hid (Mem w3' ge 123 #[.int .i64 ((i + 1 : Nat) : Int), .int .i64 t, .int .i64 (sn c (i + 1))]) := Lib.hid hM
      have S4 := Lib.hid hS
      clear hc hF hS hM c3_gp_0 c3_gp_1 c3_ge_0 c3_ge_1 c3_ge_2 X3_gp X3_ge S3
      have c4_gp_0 := Mem.cell X4_gp.out 0
      have c4_gp_1 := Mem.cell X4_gp.out 1
      have c4_ge_0 := Mem.cell X4_ge.out 0
      have c4_ge_1 := Mem.cell X4_ge.out 1
      have c4_ge_2 := Mem.cell X4_ge.out 2
      simp at c4_gp_0 c4_gp_1 c4_ge_0 c4_ge_1 c4_ge_2
      have himg := l_image S4.out
      go_upto_region 14 with (go_at_call 25; refine himg.mono ?_; rintro e w14 ⟨vd, vo, k1, k2, k3, vl, vh, vn, rfl, hown, hS, hT⟩; have hf5 := img5 vd vo vl vh vn k1 k2 k3 w14)
      have hF := Fr.of_stay (P := PI lo hi) hT (fun x a c => ⟨a, c⟩)
      have Y_gp := Lib.hid (mem_fr X4_gp.out hF (by unfold PI; omega))
      have Y_ge := Lib.hid (mem_fr X4_ge.out hF (by unfold PI; omega))
      have YS := Lib.hid hS
      obtain ⟨gv, cap, rfl, hcs⟩ := own4 hown (sl_len _ _ _)
      have HCS := Lib.hid hcs
      clear himg hF hS hT hown hcs hf5 c4_gp_0 c4_gp_1 c4_ge_0 c4_ge_1 c4_ge_2 X4_gp X4_ge S4
      go_wp2_with fail
      go_loopw [14] (fun kv wr => ∃ k : Nat, k ≤ 4 ∧ kv = .int .i64 k ∧ wr = w14) (fun kv _ => 4 - (intOf kv).toNat)
      case atStart => exact ⟨0, by omega, rfl, rfl⟩
      case round =>
        obtain ⟨k, hk4, rfl, rfl⟩ := hrel
        by_cases hk : k < 4
        · have hkI : (k : Int) < 4 := by omega
          have hcell := HCS.out k hk
          by_cases hkt : k = t
          · subst hkt
            have hke : ((k : Int) != (k : Int)) = false := by simp
            have hke2 : ((k : Int) == (k : Int)) = true := by simp
            by_cases hi2 : i < 2
            · have hi2I : (i : Int) < 2 := by omega
              rw [sl_one ht4 c hi2] at hcell
              go_wp2_with (go_at_call 55; refine (r_state1 _).mono ?_; rintro e w15 ⟨rfl, rfl⟩)
              go_roundw
              case rel => exact ⟨k + 1, by omega, by go_num, by first | rfl | trivial⟩
              case measure => simp [intOf]; omega
            · have hi2I : (2 : Int) ≤ i := by omega
              go_wp2_with (fail)
              go_roundw
              case rel => exact ⟨k + 1, by omega, by go_num, by first | rfl | trivial⟩
              case measure => simp [intOf]; omega
          · have hke : ((k : Int) != (t : Int)) = true := by simp; omega
            have hke2 : ((k : Int) == (t : Int)) = false := by simp; omega
            rw [sl_no hkt c (i + 1)] at hcell
            go_wp2_with (fail)
            go_roundw
            case rel => exact ⟨k + 1, by omega, by go_num, by first | rfl | trivial⟩
            case measure => simp [intOf]; omega
        · obtain rfl : k = 4 := by omega
          go_wp2_with (fail)
          go_roundw
          case rel => exact ⟨i + 1, by omega, by go_num, YS.out, Y_gp.out, Y_ge.out⟩
          case measure => simp [intOf]; omega
    · obtain rfl : i = 3 := by omega
      have himg := l_image S3.out
      go_upto_region 20 with (go_at_call 25; refine himg.mono ?_; rintro e w14 ⟨vd, vo, k1, k2, k3, vl, vh, vn, rfl, hown, hS, hT⟩; have hf5 := img5 vd vo vl vh vn k1 k2 k3 w14)
      have hF := Fr.of_stay (P := PI lo hi) hT (fun x a c => ⟨a, c⟩)
      have Y_ge := Lib.hid (mem_fr X3_ge.out hF (by unfold PI; omega))
      have YS := Lib.hid hS
      obtain ⟨gv, cap, rfl, hcs⟩ := own4 hown (sl_len _ _ _)
      have hcell := hcs t ht4
      rw [sl_last ht4 c] at hcell
      clear himg hF hS hT hown hcs hf5 c3_gp_0 c3_gp_1 c3_ge_0 c3_ge_1 c3_ge_2 X3_gp X3_ge S3
      have htI : (t : Int) < 4 := by omega
      have hcc : c + 2 - 2 = c := by omega
      have hsn := r_snap (c + 2) (by omega) (by omega)
      rw [hcc] at hsn
      go_wp2_with (first
        | (go_at_call 56; refine (hsn _).mono ?_; rintro e w15 ⟨rfl, rfl⟩)
        | (go_at_call 40; refine (e_snap ge _ _ c _ Y_ge.out).mono ?_; rintro e w16 ⟨rfl, rfl⟩)
        | (go_at_call 46; refine (EpoL.l_awake _).mono ?_; rintro e w17 ⟨rfl, hbl⟩; have HBL := Lib.hid hbl; clear hbl))
      have HBF := below_trans2 (below_trans2 HB0.out YS.out.old) HBL.out
      go_ret
      exact ⟨rfl, .of_below HBF⟩

/-! The row's step. -/
set_option maxRecDepth 100000 in
theorem lifted (os : Os) (started : os.Started) (H : Type) (enc : TypeId × Value → H) :
    ReturnsInHanded {} Try.checked os 14 .any (Rows.epochSlotsSpec.pre6 enc Try.prog Try.f14 Rows.epochSlotsRow.domain false) (Rows.epochSlotsSpec.post enc Try.prog Try.f14 false true false false) := by
  refine returnsInHanded_of_change (C := Try.checked) own started (by kernel_rfl) Try.func14
    (ChangeSpec.witness6 (enc := enc) (C := Try.checked) false ⟨#[], #[.agg #[.int .i64 0, .int .i64 0, .int .i64 0, .int .i64 0, .int .i64 0], .int .i64 0, .int .u64 0], []⟩ 8 (by kernel_rfl) (by kernel_rfl) (by kernel_rfl) (by kernel_rfl)) ?_
  intro W base args ds gs before hval0 hW hcnd _
  have hval : ∀ (j : Nat) t v, Try.f14.params[j]? = some t → args[j]? = some v → Value.okWide Try.prog W .any base t v := hval0
  have hW' := hW
  obtain ⟨p, q, hA0, hV, rfl, hfz, hnd⟩ := hW
  have hA : DataW.TrodAll enc Try.prog W 0 (fun _ => true) true Try.f14.params.toList args.toList ds p := hA0
  rw [Try.params14] at hA hval
  obtain ⟨v0, vs0, d0, ds0, p0, q0, hargs, rfl, rfl, h0, r0⟩ := trodAll_cons hA
  obtain ⟨v1, vs1, d1, ds1, p1, q1, rfl, rfl, rfl, h1, r1⟩ := trodAll_cons r0
  obtain ⟨v2, vs2, d2, ds2, p2, q2, rfl, rfl, rfl, h2, r2⟩ := trodAll_cons r1
  obtain ⟨rfl, rfl, rfl⟩ := trodAll_nil r2
  obtain rfl : args = #[v0, v1, v2] := by cases args; simp_all
  obtain ⟨rfl, rfl⟩ := trodVars_none hV
  have hk : ∀ W', Kept W W' → Rows.epochSlotsSpec.post enc Try.prog Try.f14 false true false false W #[v0, v1, v2] (.bool true) W' := fun W' hb =>
    post_law laidOut readable rfl Try.underlying4 rfl hW' rfl hb
  clear hA0 hval0 hA hW'
  obtain ⟨x0_0, x0_1, x0_2, x0_3, x0_4, rfl, wx0_0, wx0_1, wx0_2, wx0_3, wx0_4⟩ := LayO.open_arr5 (hval 0 22 v0 rfl rfl) h0
  obtain ⟨a1, rfl, rfl, rfl, w1⟩ := open_int Try.underlying3 (hval 1 3 v1 rfl rfl) h1
  obtain ⟨a2, rfl, rfl, rfl, w2⟩ := open_int Try.underlying29 (hval 2 29 v2 rfl rfl) h2
  refine (walk W x0_0 x0_1 x0_2 x0_3 x0_4 wx0_0 wx0_1 wx0_2 wx0_3 wx0_4 a1 w1 a2 w2).mono fun e W' ⟨he, hg⟩ => ?_
  subst he
  exact ⟨_, rfl, hk W' hg⟩

theorem over : Rows.epochSlotsRow.holds Try.pinned (OpenSpec.ofChange Rows.epochSlotsSpec) :=
  OpenClaim.holds_of_wide 14 Try.f14 rfl rfl rfl rfl rfl rfl rfl ⟨rfl, rfl, rfl, rfl, rfl⟩ rfl rfl rfl rfl rfl (by kernel_rfl) Try.func14 (by kernel_rfl)
    (of_decide_eq_true (by kernel_rfl)) (by unfold Func.isWrapper; first | (rw [if_pos (by decide +kernel)]; kernel_rfl) | (rw [if_neg (by decide +kernel)]; exact ⟨rfl, rfl⟩))
    (fun os started H enc _ => lifted os started H enc)

/-- The statement. -/
theorem proved : Rows.EpochSlotsSaid :=
  over
#print axioms proved
end Go.Proofs.Ythgbfghhiadjpaa.epochSlots
