/-
  Proved: Clear empties a set, its list is a copy, and a nil set answers with zero values. No condition.
-/
import Derived.Test.YtcohfgenpbhfeaaRows
import Derived.WalkKit
import Derived.ProofKit
import Derived.OpenShut
import Derived.Test.YtcohfgenpbhfeaaFrame
import Derived.Test.YtcohfgenpbhfeaaRsC
import Derived.Deep.RegionHeld3
import Derived.Deep.RegionLaw
namespace Go.Proofs.Ytcohfgenpbhfeaa.readsetClears
open Go.ChangeShapes Go.WideShapes Go.ChangeAt Go.RowKit
open LawFrame
open Go.ChangeMaps (open_string)
set_option linter.unusedVariables false

theorem own : ownKnob Try.prog.godebug = none := by kernel_rfl
theorem laidOut : laidOutB Try.prog = true := by kernel_rfl
theorem cells3 : Try.prog.cellsOf 3 = 1 := by kernel_rfl

open PlainT BlkW CelS CelM CelV CelN LabD FreV FreI RsA RsB RsC
set_option maxHeartbeats 4000000
set_option maxRecDepth 100000
def inc (x : Int) : Int := IntKind.i64.wrap (x + 1)
theorem inc_ne (x : Int) : (x == inc x) = false := by
  have h : inc x = (x + 1 + 9223372036854775808) % 18446744073709551616 - 9223372036854775808 := IntKind.wrap_i64 _
  rw [h]
  simp
  omega
def zs (xs : List Int) (k : Nat) : List Int := (xs.take k).map inc ++ xs.drop k
theorem zs_at {xs : List Int} {k : Nat} {x : Int} (h : xs[k]? = some x) : (zs xs k)[k]? = some x := by
  have hl := (List.getElem?_eq_some_iff.1 h).1
  unfold zs
  rw [List.getElem?_append_right (by simp; omega)]
  simp
  rw [Nat.min_eq_left (by omega)]
  simpa using h
theorem zs_set {xs : List Int} {k : Nat} {x : Int} (h : xs[k]? = some x) : (zs xs k).set k (inc x) = zs xs (k + 1) := by
  have hl := (List.getElem?_eq_some_iff.1 h).1
  have e : xs[k] = x := (List.getElem?_eq_some_iff.1 h).2
  unfold zs
  rw [List.set_append_right _ _ (by simp; omega)]
  have h1 : ((xs.take k).map inc).length = k := by simp; omega
  rw [h1, Nat.sub_self, List.drop_eq_getElem_cons hl, List.set_cons_zero, List.take_succ_eq_append_getElem hl, e]
  simp
theorem zs_end {xs : List Int} {k : Nat} {x : Int} (h : xs[k]? = some x) : (zs xs xs.length)[k]? = some (inc x) := by
  unfold zs
  simp
  exact ⟨x, h, rfl⟩
theorem ia_cell {w : World} {g k : Nat} {l : List Int} {x : Int} (h : Mem w g TI (IA l)) (hx : l[k]? = some x) : w.cell? ⟨g, k, none⟩ = some (.int .i64 x) := by
  rw [h.cell]
  unfold IA
  rw [List.getElem?_toArray, List.getElem?_map, hx]
  rfl
theorem ia_set {w : World} {g k : Nat} {l : List Int} {x : Int} (h : Mem w g TI (IA l)) : Mem (w.setCell ⟨g, k, none⟩ (.int .i64 x)) g TI (IA (l.set k x)) := by
  have := h.set_ k (.int .i64 x)
  have e : (IA l).setIfInBounds k (.int .i64 x) = IA (l.set k x) := by simp [IA]
  rwa [e] at this
theorem own_exact {w : World} {B y : Nat} {xs : List Int} (h : OwnI w B (.slice (some ⟨y, 0, none⟩) xs.length xs.length) xs) : Mem w y TI (IA xs) := by
  rcases h.2 with ⟨e, _⟩ | ⟨g9, cap9, cur9, e, h1, h2, h3, h4, h5, h6⟩
  · cases e
  · injection e with e1 e2 e3
    injection e1 with e1
    injection e1 with e1
    subst e1 e3
    have e : cur9 = IA xs := by
      apply Array.ext'
      rw [List.take_of_length_le (by rw [Array.length_toList, h5]; exact Nat.le_refl _)] at h6
      rw [h6]
      simp [IA, isV]
    rw [e] at h2
    exact h2
theorem set_far {w : World} {B g y k : Nat} {t : TypeId} {cap : Int} {v u : Value} {xs : List Int} (h : SetIs w B g t cap v xs) (h1 : g ≠ y) (h2 : v.ownBlock ≠ some y) : SetIs (w.setCell ⟨y, k, none⟩ u) B g t cap v xs :=
  h.fr ((Fr.refl (fun z => z = y) w).set_ ⟨y, k, none⟩ (.inl rfl) u) h1 fun z hz hzy => h2 (by rw [← hzy]; exact hz)
theorem below_far {B : Nat} {w w' : World} (h : Below B w w') {y k : Nat} (hy : B ≤ y) (u : Value) : Below B w (w'.setCell ⟨y, k, none⟩ u) :=
  ⟨h.os, h.tape, h.output, by simpa [World.setCell] using h.size, fun g hg => (Below.heap_setCell w' ⟨y, k, none⟩ u g (by show g ≠ y; omega)).trans (h.block g hg)⟩

theorem readable : ∀ t ∈ Try.f5.params.toList, Try.prog.readableRec t = true ∧ t < Try.prog.types.size := by
  have h : (Try.f5.params.toList.all fun t => Try.prog.readableRec t && decide (t < Try.prog.types.size)) = true := by kernel_rfl
  intro t ht
  have := List.all_eq_true.1 h t ht
  simpa using this

/-! The walk. -/
theorem walk (w : World) (A0 : Option Addr) (n0 c0 : Nat) (z0 : List Int) (l0 : n0 ≤ c0) (m0 : c0 ≤ maxLen) (s0 : Ints .i64 w A0 n0 z0) (a1 : Int) (w1 : (Lit.int .i64 a1).wf = true) :
    Calls Try.prog 5 #[.slice A0 n0 c0, .int .i64 a1] w fun e w' => e = .returned (.bool true) ∧ Kept w w' := by
  have HZ := Lib.hid s0
  clear s0
  go_enter Try.func5, Try.ntmps5
  by_cases hbig : (40 : Int) < n0
  · go_wp2_with fail
    refine (RsC.l_awake _).mono ?_
    rintro e w3 ⟨rfl, hb1⟩
    have HB1 := Lib.hid hb1
    clear hb1
    go_wp2
    go_ret
    exact ⟨rfl, .of_below HB1.out⟩
  · have hn : (n0 : Int) ≤ 40 := by omega
    clear hbig
    obtain ⟨u, hu⟩ : ∃ u, pl a1 10 = u := ⟨_, rfl⟩
    have hin := pl_in a1 10 (by decide) (by decide)
    rw [hu] at hin
    have hpl := k_place a1 10 u (by decide) (by decide) hu
    obtain ⟨q, hq⟩ : ∃ q, 1 + u = q := ⟨_, rfl⟩
    have q0 : 1 ≤ q := by omega
    have q32 : q ≤ 10 := by omega
    have hnw := a_new w q q (by omega)
    clear hu
    go_upto_region 6 with (first | (go_at_call 10; refine (hpl _).mono ?_; rintro e w1 ⟨rfl, rfl⟩) | (go_at_call 8; refine hnw.mono ?_; rintro e w2 ⟨rfl, rfl⟩))
    have hS0 := set_new w TS w.heap.size q (by decide) (Nat.le_refl _) (by omega) (by omega)
    have hB0 := below_new w (.cells #[.int .i64 q, .slice none 0 0] TS)
    obtain ⟨W0, hW⟩ : ∃ W', w.alloc (.cells #[.int .i64 q, .slice none 0 0] TS) = W' := ⟨_, rfl⟩
    rw [hW] at hS0 hB0
    first | rw [hW] | skip
    clear hW hnw hpl hq
    have HB0 := Lib.hid hB0
    have HS0 := Lib.hid hS0
    clear hB0 hS0
    go_wp2_with fail
    go_loopw [6] (fun kv wr => ∃ (k : Nat) (v : Value) (xs : List Int), k ≤ n0 ∧ kv = .int .i64 k ∧ SetIs wr w.heap.size w.heap.size TS q v xs ∧ Below w.heap.size w wr) (fun kv _ => n0 - (intOf kv).toNat)
    case atStart => exact ⟨0, _, [], by omega, rfl, HS0.out, HB0.out⟩
    case round =>
      clear HS0 HB0
      obtain ⟨k, v, xs, hk, rfl, hs, hb⟩ := hrel
      have HS := Lib.hid hs
      have HB := Lib.hid hb
      have hz := hb.size
      have hl := hs.len
      clear hs hb
      by_cases hlt : k < n0
      · have hltI : (k : Int) < n0 := by omega
        obtain ⟨tb, toff, tx, rfl, htb, htc⟩ := iat HZ.out HB.out hlt
        have hc := a_add _ _ _ _ _ _ tx HS.out hz
        go_wp2_with (go_at_call 11; (with_reducible refine hc.mono ?_); rintro e w3 ⟨rfl, v1, hS1, hF1, hob⟩)
        have HS1 := Lib.hid hS1
        have HB1 := Lib.hid (HB.out.trans (HS.out.step hz hF1))
        clear hS1 hF1 hc HS HB
        go_roundw
        case rel => exact ⟨k + 1, v1, _, by omega, by go_num, HS1.out, HB1.out⟩
        case measure => simp [intOf]; omega
      · have hli := a_list _ _ _ _ _ _ HS.out
        have hxl : (xs.length : Int) ≤ 32 := by omega
        go_upto_region 11 with (go_at_call 15; (with_reducible refine hli.mono ?_); rintro e w4 ⟨y, rfl, hy, hO, hBl⟩)
        have hS1 := HS.out.below hBl
        have hle := a_len _ _ _ _ _ _ hS1
        have hM0 : Mem w4 y TI (IA (zs xs 0)) := own_exact hO
        have hyg : w.heap.size ≠ y := by have := HS.out.box.lt; omega
        have hyv : v.ownBlock ≠ some y := fun e => by have := own_lt HS.out.row y e; omega
        have HS1 := Lib.hid hS1
        have HB1 := Lib.hid (below_trans2 HB.out hBl)
        have HM0 := Lib.hid hM0
        have hnn : xs.length ≤ 32 := hl
        obtain ⟨n, hnx⟩ : ∃ n, xs.length = n := ⟨_, rfl⟩
        rw [hnx] at hle hnn hxl
        first | rw [hnx] | skip
        have HN := Lib.hid hnx
        clear hnx hO hS1 hM0 hli HS HB hlt hk hBl
        go_upto_region 13 with (go_at_call 13; (with_reducible refine hle.mono ?_); rintro e w5 ⟨rfl, rfl⟩)
        clear hle
        go_wp2_with fail
        go_loopw [8] (fun kv wr => ∃ k : Nat, k ≤ n ∧ kv = .int .i64 k ∧ Mem wr y TI (IA (zs xs k)) ∧ SetIs wr w.heap.size w.heap.size TS q v xs ∧ Below w.heap.size w wr) (fun kv _ => n - (intOf kv).toNat)
        case atStart => exact ⟨0, by omega, rfl, HM0.out, HS1.out, HB1.out⟩
        case round =>
          clear HM0 HS1 HB1
          obtain ⟨k, hk, rfl, hm, hs, hb⟩ := hrel
          have HM := Lib.hid hm
          have HS := Lib.hid hs
          have HB := Lib.hid hb
          clear hm hs hb
          by_cases hlt : k < n
          · have hlk : (k : Int) < n := by omega
            obtain ⟨x, hx⟩ : ∃ x, xs[k]? = some x := ⟨xs[k]'(by rw [HN.out]; exact hlt), by rw [List.getElem?_eq_getElem]⟩
            have hcx := ia_cell HM.out (zs_at hx)
            have hcz := HM.out.frozen k
            obtain ⟨x1, hx1⟩ : ∃ x1, inc x = x1 := ⟨_, rfl⟩
            have hx2 : IntKind.i64.wrap (x + 1) = x1 := hx1
            have HMn : Hid (Mem (wr.setCell ⟨y, k, none⟩ (.int .i64 x1)) y TI (IA (zs xs (k + 1)))) := Lib.hid (by rw [← zs_set hx, hx1]; exact ia_set HM.out)
            have HSn := Lib.hid (set_far (k := k) (u := .int .i64 x1) HS.out hyg hyv)
            have HBn := Lib.hid (below_far (k := k) HB.out (by omega : w.heap.size ≤ y) (.int .i64 x1))
            clear hx1 hx HM HS HB
            go_wp2_with fail
            go_roundw
            case rel => exact ⟨k + 1, by omega, by go_num, HMn.out, HSn.out, HBn.out⟩
            case measure => simp [intOf]; omega
          · obtain rfl : k = n := by omega
            have hli := a_list _ _ _ _ _ _ HS.out
            rw [HN.out] at hli
            clear hlt hk
            go_upto_region 18 with (go_at_call 15; (with_reducible refine hli.mono ?_); rintro e w6 ⟨y2, rfl, hy2, hO2, hBl2⟩)
            have HS2 := Lib.hid (HS.out.below hBl2)
            have HB2 := Lib.hid (below_trans2 HB.out hBl2)
            have HM2 := Lib.hid (HM.out.below hBl2 HM.out.lt)
            rw [← HN.out] at hO2
            have HR2 := Lib.hid (own_exact hO2)
            clear hO2 hBl2 hli HS HB HM
            go_wp2_with fail
            go_loopw [10] (fun kv wq => ∃ j : Nat, j ≤ k ∧ kv = .int .i64 j ∧ ∃ nd, wq = w6.drewN nd) (fun kv _ => k - (intOf kv).toNat)
            case atStart => exact ⟨0, by omega, rfl, 0, rfl⟩
            case round =>
              obtain ⟨j, hj, rfl, hwq⟩ := hrel
              have HW := Lib.hid hwq
              clear hwq
              have hSq : SetIs wr w.heap.size w.heap.size TS q v xs := by
                obtain ⟨nd, rfl⟩ := HW.out
                exact HS2.out.drewN nd
              have hBq : Below w.heap.size w wr := by
                obtain ⟨nd, rfl⟩ := HW.out
                exact below_drewN HB2.out nd
              have HSq := Lib.hid hSq
              have HBq := Lib.hid hBq
              clear hSq hBq
              by_cases hlt : j < k
              · have hlk : (j : Int) < k := by omega
                obtain ⟨x, hx⟩ : ∃ x, xs[j]? = some x := ⟨xs[j]'(by rw [HN.out]; exact hlt), by rw [List.getElem?_eq_getElem]⟩
                have hcb : wr.drew.cell? ⟨y2, j, none⟩ = some (.int .i64 x) := by
                  obtain ⟨nd, rfl⟩ := HW.out
                  exact ia_cell HR2.out hx
                have hca : wr.drew.cell? ⟨y, j, none⟩ = some (.int .i64 (inc x)) := by
                  obtain ⟨nd, rfl⟩ := HW.out
                  exact ia_cell HM2.out (by rw [← HN.out]; exact zs_end hx)
                have hne := inc_ne x
                have hh : Calls Try.prog 16 #[.pointer (some ⟨w.heap.size, 0, none⟩), .int .i64 x] wr.drew _ := a_has wr.drew _ _ _ _ _ x (HSq.out.drewN 1)
                rw [decide_eq_true (List.mem_of_getElem? hx)] at hh
                obtain ⟨x1, hx1⟩ : ∃ x1, inc x = x1 := ⟨_, rfl⟩
                rw [hx1] at hca hne
                clear hx hx1
                have hs0 : (fun W : World => W.cell? ⟨y2, j, none⟩ = some (.int .i64 x) ∧ W.cell? ⟨y, j, none⟩ = some (.int .i64 x1)) wr.drew := ⟨hcb, hca⟩
                clear hcb hca
                go_upto_region 21 with (fail)
                go_region_held3 (fun W : World => W.cell? ⟨y2, j, none⟩ = some (.int .i64 x) ∧ W.cell? ⟨y, j, none⟩ = some (.int .i64 x1)) (first | (with_reducible exact hs0) | (with_reducible assumption)) (first | (go_at_call 16; (with_reducible refine hh.mono ?_); rintro e w7 ⟨rfl, rfl⟩))
                all_goals
                  go_wp2_with fail
                  go_roundw
                  case rel =>
                    obtain ⟨nd, rfl⟩ := HW.out
                    exact ⟨j + 1, by omega, by go_num, nd + 1, rfl⟩
                  case measure => simp [intOf]; omega
              · obtain rfl : j = k := by omega
                have hcl := a_clear _ _ _ _ _ _ HSq.out
                have hcn := a_clear_nil
                go_upto_region 26 with (first
                  | (go_at_call 18; (with_reducible refine hcl.mono ?_); rintro e w8 ⟨rfl, v8, hS8, hv8, hF8⟩)
                  | (go_at_call 18; (with_reducible refine (hcn _).mono ?_); rintro e w9 ⟨rfl, rfl⟩))
                have hB8 := HBq.out.trans (HSq.out.step HBq.out.size hF8)
                have HS8 := Lib.hid hS8
                have HB8 := Lib.hid hB8
                clear hS8 hB8 hF8 hv8 hcl hcn HSq HBq HW HS2 HB2 HM2 HR2
                have hl8 := a_len _ _ _ _ _ _ HS8.out
                have hi8 := a_list _ _ _ _ _ _ HS8.out
                simp only [List.length_nil] at hl8 hi8
                rw [show ((0 : Nat) : Int) = 0 from rfl] at hl8
                have hn1 : ∀ W, Calls Try.prog 11 #[.pointer none, .int .i64 1] W fun e w' => e = .returned (.bool false) ∧ Below W.heap.size W w' := fun W => (a_add_nil W 1).mono fun e w' ⟨he, nd, hw⟩ => ⟨he, hw ▸ below_drewN (Below.refl _ W) nd⟩
                have hn2 := a_has_nil
                have hn3 := a_len_nil
                have hn4 := a_list_nil
                have hB9 := HB8.out.size
                go_wp2_with (first
                  | (go_at_call 13; (with_reducible refine hl8.mono ?_); rintro e x1 ⟨rfl, rfl⟩)
                  | (go_at_call 15; (with_reducible refine hi8.mono ?_); rintro e x2 ⟨y9, rfl, hy9, hO9, hBl9⟩; have hS9 := HS8.out.below hBl9; have hB10 := HB8.out.trans (hBl9.mono hB9); have c9 := a_add_to hS9 hB10.size 3 true [3] (by unfold said; simp; omega) (by unfold adds; simp; omega))
                  | (go_at_call 11; (with_reducible refine c9.mono ?_); rintro e x3 ⟨rfl, v9, hS10, hF10, _⟩; have hB11 := hB10.trans (hS9.step hB10.size hF10); have hl9 := a_len _ _ _ _ _ _ hS10; simp only [List.length_cons, List.length_nil] at hl9; rw [show ((0 + 1 : Nat) : Int) = 1 from rfl] at hl9)
                  | (go_at_call 13; (with_reducible refine hl9.mono ?_); rintro e x4 ⟨rfl, rfl⟩)
                  | (go_at_call 11; (with_reducible refine (hn1 _).mono ?_); rintro e x5 ⟨rfl, hB12⟩)
                  | (go_at_call 16; (with_reducible refine (hn2 _ _).mono ?_); rintro e x6 ⟨rfl, rfl⟩)
                  | (go_at_call 13; (with_reducible refine (hn3 _).mono ?_); rintro e x7 ⟨rfl, rfl⟩)
                  | (go_at_call 15; (with_reducible refine (hn4 _).mono ?_); rintro e x8 ⟨rfl, rfl⟩)
                  | (go_at_call 7; refine (RsC.l_awake _).mono ?_; rintro e x9 ⟨rfl, hb9⟩))
                go_ret
                exact ⟨rfl, .of_below ((hB11.trans (hB12.mono hB11.size)).trans (hb9.mono (Nat.le_trans hB11.size hB12.size)))⟩

/-! The row's step. -/
set_option maxRecDepth 100000 in
theorem lifted (os : Os) (started : os.Started) (H : Type) (enc : TypeId × Value → H) :
    ReturnsInHanded {} Try.checked os 5 .any (Rows.readsetClearsSpec.pre6 enc Try.prog Try.f5 Rows.readsetClearsRow.domain false) (Rows.readsetClearsSpec.post enc Try.prog Try.f5 false true false false) := by
  refine returnsInHanded_of_change (C := Try.checked) own started (by kernel_rfl) Try.func5
    (ChangeSpec.witness6 (enc := enc) (C := Try.checked) false ⟨#[], #[.slice none 0 0, .int .i64 0], []⟩ 8 (by kernel_rfl) (by kernel_rfl) (by kernel_rfl) (by kernel_rfl)) ?_
  intro W base args ds gs before hval0 hW hcnd _
  have hval : ∀ (j : Nat) t v, Try.f5.params[j]? = some t → args[j]? = some v → Value.okWide Try.prog W .any base t v := hval0
  have hW' := hW
  obtain ⟨p, q, hA0, hV, rfl, hfz, hnd⟩ := hW
  have hA : DataW.TrodAll enc Try.prog W 0 (fun _ => true) true Try.f5.params.toList args.toList ds p := hA0
  rw [Try.params5] at hA hval
  obtain ⟨v0, vs0, d0, ds0, p0, q0, hargs, rfl, rfl, h0, r0⟩ := trodAll_cons hA
  obtain ⟨v1, vs1, d1, ds1, p1, q1, rfl, rfl, rfl, h1, r1⟩ := trodAll_cons r0
  obtain ⟨rfl, rfl, rfl⟩ := trodAll_nil r1
  obtain rfl : args = #[v0, v1] := by cases args; simp_all
  obtain ⟨rfl, rfl⟩ := trodVars_none hV
  have hk : ∀ W', Kept W W' → Rows.readsetClearsSpec.post enc Try.prog Try.f5 false true false false W #[v0, v1] (.bool true) W' := fun W' hb =>
    post_law laidOut readable rfl Try.underlying4 rfl hW' rfl hb
  clear hA0 hval0 hA hW'
  obtain ⟨A0, n0, c0, z0, rfl, l0, m0, s0⟩ := open_slice Try.underlying22 Try.underlying3 cells3 (hval 0 22 v0 rfl rfl) h0
  obtain ⟨a1, rfl, rfl, rfl, w1⟩ := open_int Try.underlying3 (hval 1 3 v1 rfl rfl) h1
  refine (walk W A0 n0 c0 z0 l0 m0 s0 a1 w1).mono fun e W' ⟨he, hg⟩ => ?_
  subst he
  exact ⟨_, rfl, hk W' hg⟩

theorem over : Rows.readsetClearsRow.holds Try.pinned (OpenSpec.ofChange Rows.readsetClearsSpec) :=
  OpenClaim.holds_of_wide 5 Try.f5 rfl rfl rfl rfl rfl rfl rfl ⟨rfl, rfl, rfl, rfl, rfl⟩ rfl rfl rfl rfl rfl (by kernel_rfl) Try.func5 (by kernel_rfl)
    (of_decide_eq_true (by kernel_rfl)) (by unfold Func.isWrapper; first | (rw [if_pos (by decide +kernel)]; kernel_rfl) | (rw [if_neg (by decide +kernel)]; exact ⟨rfl, rfl⟩))
    (fun os started H enc _ => lifted os started H enc)

/-- The statement. -/
theorem proved : Rows.ReadsetClearsSaid :=
  over
#print axioms proved
end Go.Proofs.Ytcohfgenpbhfeaa.readsetClears
