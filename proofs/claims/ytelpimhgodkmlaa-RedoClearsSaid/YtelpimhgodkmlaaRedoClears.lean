/-
  Proved: Clear empties a log and its index, the lists are copies, and a nil log answers with zero values. No condition.
-/
import Derived.Test.YtelpimhgodkmlaaRows
import Derived.WalkKit
import Derived.ProofKit
import Derived.OpenShut
import Derived.Test.YtelpimhgodkmlaaFrame
import Derived.Test.YtelpimhgodkmlaaRlF
import Derived.Deep.RegionHeld3
import Derived.Deep.RegionLaw
namespace Go.Proofs.Ytelpimhgodkmlaa.redoClears
open Go.ChangeShapes Go.WideShapes Go.ChangeAt Go.RowKit
open LawFrame
open Go.ChangeMaps (open_string)
set_option linter.unusedVariables false

theorem own : ownKnob Try.prog.godebug = none := by kernel_rfl
theorem laidOut : laidOutB Try.prog = true := by kernel_rfl

open PlainT BlkW CelS CelM CelV CelN LabD FreV FreI RsA RlU RlP RlA RlB RlC RlD RlE RlF
set_option maxHeartbeats 2000000
set_option maxRecDepth 100000
theorem putX_len (cap : Nat) (ad ix : List Int) (x : Int) : (putX cap ad ix x).length = ix.length := by
  unfold putX
  split
  · exact List.length_set
  · rfl
def inc (x : Int) : Int := IntKind.i64.wrap (x + 1)
def dec (x : Int) : Int := IntKind.i64.wrap (x - 1)
def incw (x : Int) : Int := IntKind.u64.wrap (x + 1)
theorem inc_ne (x : Int) : (x == inc x) = false := by
  unfold inc
  have h : IntKind.i64.wrap (x + 1) = (x + 1 + 9223372036854775808) % 18446744073709551616 - 9223372036854775808 := IntKind.wrap_i64 _
  rw [h]
  simp
  omega
theorem dec_ne (x : Int) : (x == dec x) = false := by
  unfold dec
  have h : IntKind.i64.wrap (x - 1) = (x - 1 + 9223372036854775808) % 18446744073709551616 - 9223372036854775808 := IntKind.wrap_i64 _
  rw [h]
  simp
  omega
theorem incw_ne (x : Int) : (x == incw x) = false := by
  unfold incw
  have h : IntKind.u64.wrap (x + 1) = (x + 1) % 18446744073709551616 := rfl
  rw [h]
  simp
  omega
/-- The first k elements turned. -/
def zf (f : Int → Int) (xs : List Int) (k : Nat) : List Int := (xs.take k).map f ++ xs.drop k
theorem zf_zero (f : Int → Int) (xs : List Int) : zf f xs 0 = xs := by simp [zf]
theorem zf_at {f : Int → Int} {xs : List Int} {k : Nat} {x : Int} (h : xs[k]? = some x) : (zf f xs k)[k]? = some x := by
  have hl := (List.getElem?_eq_some_iff.1 h).1
  unfold zf
  rw [List.getElem?_append_right (by simp; omega)]
  simp
  rw [Nat.min_eq_left (by omega)]
  simpa using h
theorem zf_set {f : Int → Int} {xs : List Int} {k : Nat} {x : Int} (h : xs[k]? = some x) : (zf f xs k).set k (f x) = zf f xs (k + 1) := by
  have hl := (List.getElem?_eq_some_iff.1 h).1
  have e : xs[k] = x := (List.getElem?_eq_some_iff.1 h).2
  unfold zf
  rw [List.set_append_right _ _ (by simp; omega)]
  have h1 : ((xs.take k).map f).length = k := by simp; omega
  rw [h1, Nat.sub_self, List.drop_eq_getElem_cons hl, List.set_cons_zero, List.take_succ_eq_append_getElem hl, e]
  simp
theorem zf_end {f : Int → Int} {xs : List Int} {k : Nat} {x : Int} (h : xs[k]? = some x) : (zf f xs xs.length)[k]? = some (f x) := by
  unfold zf
  simp
  exact ⟨x, h, rfl⟩
theorem ia_cell {w : World} {g k : Nat} {l : List Int} {x : Int} (h : Mem w g TI (IA l)) (hx : l[k]? = some x) : w.cell? ⟨g, k, none⟩ = some (.int .i64 x) := by
  rw [h.cell]
  unfold IA
  rw [List.getElem?_toArray, List.getElem?_map, hx]
  rfl
theorem wa_cell {w : World} {g k : Nat} {l : List Int} {x : Int} (h : Mem w g TU (WA l)) (hx : l[k]? = some x) : w.cell? ⟨g, k, none⟩ = some (.int .u64 x) := by
  rw [h.cell]
  unfold WA
  rw [List.getElem?_toArray, List.getElem?_map, hx]
  rfl
theorem ia_set {w : World} {g k : Nat} {l : List Int} {x : Int} (h : Mem w g TI (IA l)) : Mem (w.setCell ⟨g, k, none⟩ (.int .i64 x)) g TI (IA (l.set k x)) := by
  have := h.set_ k (.int .i64 x)
  have e : (IA l).setIfInBounds k (.int .i64 x) = IA (l.set k x) := by simp [IA]
  rwa [e] at this
theorem wa_set {w : World} {g k : Nat} {l : List Int} {x : Int} (h : Mem w g TU (WA l)) : Mem (w.setCell ⟨g, k, none⟩ (.int .u64 x)) g TU (WA (l.set k x)) := by
  have := h.set_ k (.int .u64 x)
  have e : (WA l).setIfInBounds k (.int .u64 x) = WA (l.set k x) := by simp [WA]
  rwa [e] at this
/-- The log and the three lists that it gave out. -/
structure Q (w0 : World) (y1 y2 y3 : Nat) (L : LV) (ad vs ix X Y Z : List Int) (W : World) : Prop where
  log : LogIs W w0.heap.size TL 32 L ad vs ix
  m1 : Mem W y1 TI (IA X)
  m2 : Mem W y2 TU (WA Y)
  m3 : Mem W y3 TI (IA Z)
  be : Below w0.heap.size w0 W
  n1 : ¬ Blks L y1
  n2 : ¬ Blks L y2
  n3 : ¬ Blks L y3
  a12 : y1 ≠ y2
  a13 : y1 ≠ y3
  a23 : y2 ≠ y3
  h1 : w0.heap.size ≤ y1
  h2 : w0.heap.size ≤ y2
  h3 : w0.heap.size ≤ y3
section
variable {w0 : World} {y1 y2 y3 : Nat} {L : LV} {ad vs ix X Y Z : List Int} {W W' : World}
theorem Q.set1 (h : Q w0 y1 y2 y3 L ad vs ix X Y Z W) (k : Nat) (x : Int) : Q w0 y1 y2 y3 L ad vs ix (X.set k x) Y Z (W.setCell ⟨y1, k, none⟩ (.int .i64 x)) := by
  have f := (Fr.refl (fun y => y = y1) W).set_ ⟨y1, k, none⟩ (.inl rfl) (.int .i64 x)
  exact ⟨h.log.fr f fun y hy e => h.n1 (e ▸ hy), ia_set h.m1, h.m2.far (fun e => h.a12 e.symm) _, h.m3.far (fun e => h.a13 e.symm) _, f.after h.be (fun y hy => by rw [hy]; exact h.h1) (Nat.le_refl _), h.n1, h.n2, h.n3, h.a12, h.a13, h.a23, h.h1, h.h2, h.h3⟩
theorem Q.set2 (h : Q w0 y1 y2 y3 L ad vs ix X Y Z W) (k : Nat) (x : Int) : Q w0 y1 y2 y3 L ad vs ix X (Y.set k x) Z (W.setCell ⟨y2, k, none⟩ (.int .u64 x)) := by
  have f := (Fr.refl (fun y => y = y2) W).set_ ⟨y2, k, none⟩ (.inl rfl) (.int .u64 x)
  exact ⟨h.log.fr f fun y hy e => h.n2 (e ▸ hy), h.m1.far h.a12 _, wa_set h.m2, h.m3.far (fun e => h.a23 e.symm) _, f.after h.be (fun y hy => by rw [hy]; exact h.h2) (Nat.le_refl _), h.n1, h.n2, h.n3, h.a12, h.a13, h.a23, h.h1, h.h2, h.h3⟩
theorem Q.set3 (h : Q w0 y1 y2 y3 L ad vs ix X Y Z W) (k : Nat) (x : Int) : Q w0 y1 y2 y3 L ad vs ix X Y (Z.set k x) (W.setCell ⟨y3, k, none⟩ (.int .i64 x)) := by
  have f := (Fr.refl (fun y => y = y3) W).set_ ⟨y3, k, none⟩ (.inl rfl) (.int .i64 x)
  exact ⟨h.log.fr f fun y hy e => h.n3 (e ▸ hy), h.m1.far h.a13 _, h.m2.far h.a23 _, ia_set h.m3, f.after h.be (fun y hy => by rw [hy]; exact h.h3) (Nat.le_refl _), h.n1, h.n2, h.n3, h.a12, h.a13, h.a23, h.h1, h.h2, h.h3⟩
theorem Q.below (h : Q w0 y1 y2 y3 L ad vs ix X Y Z W) (k : Below W.heap.size W W') : Q w0 y1 y2 y3 L ad vs ix X Y Z W' :=
  ⟨h.log.below k, h.m1.below k h.m1.lt, h.m2.below k h.m2.lt, h.m3.below k h.m3.lt, h.be.trans (k.mono h.be.size), h.n1, h.n2, h.n3, h.a12, h.a13, h.a23, h.h1, h.h2, h.h3⟩
end

theorem readable : ∀ t ∈ Try.f7.params.toList, Try.prog.readableRec t = true ∧ t < Try.prog.types.size := by
  have h : (Try.f7.params.toList.all fun t => Try.prog.readableRec t && decide (t < Try.prog.types.size)) = true := by kernel_rfl
  intro t ht
  have := List.all_eq_true.1 h t ht
  simpa using this

/-! The walk. -/
theorem walk (w : World) (A0 : Option Addr) (n0 c0 : Nat) (l0 : n0 ≤ c0) (m0 : c0 ≤ maxLen) (s0 : RlF.RowU w A0 n0) :
    Calls Try.prog 7 #[.slice A0 n0 c0] w fun e w' => e = .returned (.bool true) ∧ Kept w w' := by
  have HZ := Lib.hid s0
  clear s0
  go_enter Try.func7, Try.ntmps7
  by_cases hbig : (30 : Int) < n0
  · go_wp2_with fail
    refine (RlE.l_awake _).mono ?_
    rintro e w3 ⟨rfl, hb1⟩
    have HB1 := Lib.hid hb1
    clear hb1
    go_wp2
    go_ret
    exact ⟨rfl, .of_below HB1.out⟩
  · have hn : (n0 : Int) ≤ 30 := by omega
    clear hbig
    have hnw := a_new w 32 32 (by decide)
    go_upto_region 6 with (go_at_call 9; refine hnw.mono ?_; rintro e w2 ⟨⟨g, va, vv, vi⟩, rfl, hS0, hB0⟩)
    have HS0 := Lib.hid hS0
    have HB0 := Lib.hid hB0
    clear hS0 hB0 hnw
    go_wp2_with fail
    go_loopw [4] (fun kv wr => ∃ (k : Nat) (L : LV) (ad vs ix : List Int), k ≤ n0 ∧ kv = .int .i64 k ∧ LogIs wr w.heap.size TL 32 L ad vs ix ∧ L.g = g ∧ ix.length = 64 ∧ Below w.heap.size w wr) (fun kv _ => n0 - (intOf kv).toNat)
    case atStart => exact ⟨0, _, _, _, _, by omega, rfl, HS0.out, rfl, by rw [List.length_replicate]; rfl, HB0.out⟩
    case round =>
      clear HS0 HB0
      obtain ⟨k, L, ad, vs, ix, hk, rfl, hs, hg, hl, hb⟩ := hrel
      have HS := Lib.hid hs
      have HB := Lib.hid hb
      have hz := hb.size
      have HG := Lib.hid hg
      have HL := Lib.hid hl
      clear hs hb hg hl
      by_cases hlt : k < n0
      · have hltI : (k : Int) < n0 := by omega
        obtain ⟨b, off, rfl, hb0, hc⟩ := HZ.out (by omega)
        obtain ⟨x, v, e0, e1⟩ := hc k hlt
        obtain ⟨t, ht⟩ : ∃ t, pl x 30 = t := ⟨_, rfl⟩
        have hpl := k_place x 30 t (by decide) (by decide) ht
        have hcp := a_put wr.drew _ _ _ _ _ _ t v (HS.out.drewN 1) hz
        rw [HG.out] at hcp
        have hs0 : (fun W : World => W.cell? ⟨b, off + k * 2, none⟩ = some (.int .i64 x) ∧ W.cell? ⟨b, off + k * 2 + 1, none⟩ = some (.int .u64 v)) wr.drew := ⟨(World.cell?_of_block (HB.out.block b hb0)).trans e0, (World.cell?_of_block (HB.out.block b hb0)).trans e1⟩
        have HE := Lib.hid (And.intro e0 e1)
        clear ht hc e0 e1
        go_upto_region 9 with fail
        go_region_held3 (fun W : World => W.cell? ⟨b, off + k * 2, none⟩ = some (.int .i64 x) ∧ W.cell? ⟨b, off + k * 2 + 1, none⟩ = some (.int .u64 v)) (first | (with_reducible exact hs0) | (with_reducible exact hs1) | (with_reducible assumption)) (first
          | (go_at_call 11; (with_reducible refine (hpl _).mono ?_); rintro e w4 ⟨rfl, rfl⟩)
          | (go_at_call 12; (with_reducible refine hcp.mono ?_); rintro e w3 ⟨rfl, L1, hS1, hg1, hF1, hb1⟩; have hB1 := HB.out.trans (HS.out.step hz (((Fr.refl (Blks L) wr).drewN 1).trans hF1)); have hs1 : (fun W : World => W.cell? ⟨b, off + k * 2, none⟩ = some (.int .i64 x) ∧ W.cell? ⟨b, off + k * 2 + 1, none⟩ = some (.int .u64 v)) w3 := ⟨(World.cell?_of_block (hB1.block b hb0)).trans HE.out.1, (World.cell?_of_block (hB1.block b hb0)).trans HE.out.2⟩))
        all_goals
          have HS1 := Lib.hid hS1
          have HB1 := Lib.hid hB1
          have HG1 := Lib.hid (hg1.trans HG.out)
          clear hS1 hF1 hcp HS HB HG hg1 hb1 hs0 hs1 hB1
          go_wp2_with fail
          go_roundw
          case rel => exact ⟨k + 1, L1, _, _, _, by omega, by go_num, HS1.out, HG1.out, by rw [putX_len, HL.out], HB1.out⟩
          case measure => simp [intOf]; omega
      · obtain rfl : k = n0 := by omega
        have ha1 := a_addrs _ _ _ _ _ _ _ HS.out
        rw [HG.out] at ha1
        have hlv := HS.out.ok.lv
        have hfew : ad.length ≤ 32 := HS.out.ok.few
        clear hlt hk
        go_upto_region 11 with (first
          | (go_at_call 16; (with_reducible refine ha1.mono ?_); rintro e w3 ⟨y1, rfl, hy1, hM1, hBl1⟩; have hS3 := HS.out.below hBl1; have ha2 := a_values _ _ _ _ _ _ _ hS3; rw [HG.out] at ha2)
          | (go_at_call 18; (with_reducible refine ha2.mono ?_); rintro e w4 ⟨y2, rfl, hy2, hM2, hBl2⟩; have hS4 := hS3.below hBl2; have ha3 := a_index _ _ _ _ _ _ _ hS4; rw [HG.out] at ha3)
          | (go_at_call 19; (with_reducible refine ha3.mono ?_); rintro e w5 ⟨y3, rfl, hy3, hM3, hBl3⟩))
        have hQ : Q w y1 y2 y3 L ad vs ix ad vs ix w5 := by
          have l1 := hM1.lt
          have l2 := hM2.lt
          have l3 := hM3.lt
          have z1 := hBl1.size
          have z2 := hBl2.size
          have z3 := hBl3.size
          exact ⟨hS4.below hBl3, (hM1.below hBl2 l1).below hBl3 (by omega), hM2.below hBl3 l2, hM3, ((HB.out.trans (hBl1.mono hz)).trans (hBl2.mono (by omega))).trans (hBl3.mono (by omega)), fun c => by have := (HS.out.lt c).2; omega, fun c => by have := (HS.out.lt c).2; omega, fun c => by have := (HS.out.lt c).2; omega, by omega, by omega, by omega, by omega, by omega, by omega⟩
        have HQ := Lib.hid hQ
        obtain ⟨q, hq⟩ : ∃ q, ad.length = q := ⟨_, rfl⟩
        first | rw [hlv] | skip
        rw [hq, HL.out]
        rw [hq] at hfew hlv
        have HN := Lib.hid hq
        have HV := Lib.hid hlv
        have hqI : (q : Int) ≤ 32 := by omega
        clear hQ hM1 hM2 hM3 hBl1 hBl2 hBl3 hS3 hS4 ha1 ha2 ha3 hy1 hy2 hy3 HS HB hq hlv
        go_wp2_with fail
        go_loopw [8] (fun kv wr => ∃ k : Nat, k ≤ q ∧ kv = .int .i64 k ∧ Q w y1 y2 y3 L ad vs ix (zf inc ad k) (zf incw vs k) ix wr) (fun kv _ => q - (intOf kv).toNat)
        case atStart => exact ⟨0, by omega, rfl, by rw [zf_zero, zf_zero]; exact HQ.out⟩
        case round =>
          clear HQ
          obtain ⟨k, hk, rfl, hq⟩ := hrel
          have HQ := Lib.hid hq
          clear hq
          by_cases hlt : k < q
          · have hlk : (k : Int) < q := by omega
            obtain ⟨x, hx⟩ : ∃ x, ad[k]? = some x := ⟨ad[k]'(by rw [HN.out]; exact hlt), by rw [List.getElem?_eq_getElem]⟩
            obtain ⟨v, hv⟩ : ∃ v, vs[k]? = some v := ⟨vs[k]'(by rw [HV.out]; exact hlt), by rw [List.getElem?_eq_getElem]⟩
            have hcx := ia_cell HQ.out.m1 (zf_at hx)
            have hcz := HQ.out.m1.frozen k
            obtain ⟨x1, hx1⟩ : ∃ x1, inc x = x1 := ⟨_, rfl⟩
            have hx2 : IntKind.i64.wrap (x + 1) = x1 := hx1
            have q1 := HQ.out.set1 k x1
            have hcv := wa_cell q1.m2 (zf_at hv)
            have hcy := q1.m2.frozen k
            obtain ⟨v1, hv1⟩ : ∃ v1, incw v = v1 := ⟨_, rfl⟩
            have hv2 : IntKind.u64.wrap (v + 1) = v1 := hv1
            have q2 := q1.set2 k v1
            rw [← hx1, zf_set hx, hx1] at q2
            rw [← hv1, zf_set hv, hv1] at q2
            have Q2 := Lib.hid q2
            have hne := HQ.out.a12
            have hne2 : y2 ≠ y1 := fun e => hne e.symm
            have hcv0 := wa_cell HQ.out.m2 (zf_at hv)
            have hcy0 := HQ.out.m2.frozen k
            clear hx1 hx hv1 hv q1 q2 HQ hcv hcy
            go_wp2_with fail
            go_roundw
            case rel => exact ⟨k + 1, by omega, by go_num, Q2.out⟩
            case measure => simp [intOf]; omega
          · obtain rfl : k = q := by omega
            clear hlt hk
            go_wp2_with fail
            go_loopw [9] (fun kv wr => ∃ j : Nat, j ≤ 64 ∧ kv = .int .i64 j ∧ Q w y1 y2 y3 L ad vs ix (zf inc ad k) (zf incw vs k) (zf dec ix j) wr) (fun kv _ => 64 - (intOf kv).toNat)
            case atStart => exact ⟨0, by omega, rfl, by rw [zf_zero]; exact HQ.out⟩
            case round =>
              clear HQ
              obtain ⟨j, hj, rfl, hq⟩ := hrel
              have HQ := Lib.hid hq
              clear hq
              by_cases hlt : j < 64
              · have hlk : (j : Int) < 64 := by omega
                obtain ⟨x, hx⟩ : ∃ x, ix[j]? = some x := ⟨ix[j]'(by rw [HL.out]; exact hlt), by rw [List.getElem?_eq_getElem]⟩
                have hcx := ia_cell HQ.out.m3 (zf_at hx)
                have hcz := HQ.out.m3.frozen j
                obtain ⟨x1, hx1⟩ : ∃ x1, dec x = x1 := ⟨_, rfl⟩
                have hx2 : IntKind.i64.wrap (x - 1) = x1 := hx1
                have q2 := HQ.out.set3 j x1
                rw [← hx1, zf_set hx, hx1] at q2
                have Q2 := Lib.hid q2
                clear hx1 hx q2 HQ
                go_wp2_with fail
                go_roundw
                case rel => exact ⟨j + 1, by omega, by go_num, Q2.out⟩
                case measure => simp [intOf]; omega
              · obtain rfl : j = 64 := by omega
                clear hlt hj
                have ha1 := a_addrs _ _ _ _ _ _ _ HQ.out.log
                rw [HG.out] at ha1
                have hzq := HQ.out.be.size
                go_upto_region 21 with (first
                  | (go_at_call 16; (with_reducible refine ha1.mono ?_); rintro e w3 ⟨y4, rfl, hy4, hM4, hBl4⟩; have hS3 := HQ.out.log.below hBl4; have ha2 := a_values _ _ _ _ _ _ _ hS3; rw [HG.out] at ha2)
                  | (go_at_call 18; (with_reducible refine ha2.mono ?_); rintro e w4 ⟨y5, rfl, hy5, hM5, hBl5⟩; have hS4 := hS3.below hBl5; have ha3 := a_index _ _ _ _ _ _ _ hS4; rw [HG.out] at ha3)
                  | (go_at_call 19; (with_reducible refine ha3.mono ?_); rintro e w5 ⟨y6, rfl, hy6, hM6, hBl6⟩))
                have hle := a_len _ _ _ _ _ _ _ (hS4.below hBl6).toLogR
                rw [HG.out, HN.out] at hle
                have HQ5 := Lib.hid (((HQ.out.below hBl4).below hBl5).below hBl6)
                have HC1 : Hid (∀ nd (j : Nat) (x : Int), ad[j]? = some x → (w5.drewN nd).cell? ⟨y1, j, none⟩ = some (.int .i64 (inc x))) := Lib.hid fun nd j x h => ia_cell HQ5.out.m1 (by rw [← HN.out]; exact zf_end h)
                have HC2 : Hid (∀ nd (j : Nat) (x : Int), vs[j]? = some x → (w5.drewN nd).cell? ⟨y2, j, none⟩ = some (.int .u64 (incw x))) := Lib.hid fun nd j x h => wa_cell HQ5.out.m2 (by rw [← HV.out]; exact zf_end h)
                have HC3 : Hid (∀ nd (j : Nat) (x : Int), ix[j]? = some x → (w5.drewN nd).cell? ⟨y3, j, none⟩ = some (.int .i64 (dec x))) := Lib.hid fun nd j x h => ia_cell HQ5.out.m3 (by rw [← HL.out]; exact zf_end h)
                have HC4 : Hid (∀ nd (j : Nat) (x : Int), ad[j]? = some x → (w5.drewN nd).cell? ⟨y4, j, none⟩ = some (.int .i64 x)) := Lib.hid fun nd j x h => ia_cell (Mem.drewN ((hM4.below hBl5 hM4.lt).below (B := w4.heap.size) hBl6 (by have := hM4.lt; have := hBl5.size; omega)) nd) h
                have HC5 : Hid (∀ nd (j : Nat) (x : Int), vs[j]? = some x → (w5.drewN nd).cell? ⟨y5, j, none⟩ = some (.int .u64 x)) := Lib.hid fun nd j x h => wa_cell (Mem.drewN (hM5.below hBl6 hM5.lt) nd) h
                have HC6 : Hid (∀ nd (j : Nat) (x : Int), ix[j]? = some x → (w5.drewN nd).cell? ⟨y6, j, none⟩ = some (.int .i64 x)) := Lib.hid fun nd j x h => ia_cell hM6 h
                first | rw [HV.out] | skip
                first | rw [HN.out] | skip
                first | rw [HL.out] | skip
                clear hM4 hM5 hM6 hBl4 hBl5 hBl6 hS3 hS4 ha1 ha2 ha3 hy4 hy5 hy6 HQ hzq
                go_upto_region 23 with (go_at_call 14; (with_reducible refine hle.mono ?_); rintro e w6 ⟨rfl, rfl⟩)
                go_wp2_with fail
                go_loopw [13] (fun kv wq => ∃ j : Nat, j ≤ k ∧ kv = .int .i64 j ∧ ∃ nd, wq = w6.drewN nd) (fun kv _ => k - (intOf kv).toNat)
                case atStart => exact ⟨0, by omega, rfl, 0, rfl⟩
                case round =>
                  rename World => wq
                  obtain ⟨j, hj, rfl, hwq⟩ := hrel
                  have HW := Lib.hid hwq
                  clear hwq
                  by_cases hlt : j < k
                  · have hlk : (j : Int) < k := by omega
                    obtain ⟨x, hx⟩ : ∃ x, ad[j]? = some x := ⟨ad[j]'(by rw [HN.out]; exact hlt), by rw [List.getElem?_eq_getElem]⟩
                    obtain ⟨v, hv⟩ : ∃ v, vs[j]? = some v := ⟨vs[j]'(by rw [HV.out]; exact hlt), by rw [List.getElem?_eq_getElem]⟩
                    have d1 : wq.cell? ⟨y1, j, none⟩ = some (.int .i64 (inc x)) := by
                      obtain ⟨nd, rfl⟩ := HW.out
                      exact HC1.out nd j x hx
                    have d2 : wq.cell? ⟨y2, j, none⟩ = some (.int .u64 (incw v)) := by
                      obtain ⟨nd, rfl⟩ := HW.out
                      exact HC2.out nd j v hv
                    have d4 : wq.cell? ⟨y4, j, none⟩ = some (.int .i64 x) := by
                      obtain ⟨nd, rfl⟩ := HW.out
                      exact HC4.out nd j x hx
                    have d5 : wq.cell? ⟨y5, j, none⟩ = some (.int .u64 v) := by
                      obtain ⟨nd, rfl⟩ := HW.out
                      exact HC5.out nd j v hv
                    have t1 := inc_ne x
                    have t2 := incw_ne v
                    obtain ⟨x1, hx1⟩ : ∃ x1, inc x = x1 := ⟨_, rfl⟩
                    obtain ⟨v1, hv1⟩ : ∃ v1, incw v = v1 := ⟨_, rfl⟩
                    rw [hx1] at d1 t1
                    rw [hv1] at d2 t2
                    clear hx hv hx1 hv1
                    go_upto_region 26 with fail
                    go_quiet (fail)
                    go_wp2_with fail
                    go_roundw
                    case rel =>
                      obtain ⟨nd, rfl⟩ := HW.out
                      exact ⟨j + 1, by omega, by go_num, nd + nq, by rw [World.drewN_drewN]⟩
                    case measure => simp [intOf]; omega
                  · obtain rfl : j = k := by omega
                    clear hlt hj
                    go_wp2_with fail
                    go_loopw [14] (fun kv wt => ∃ i : Nat, i ≤ 64 ∧ kv = .int .i64 i ∧ ∃ nd, wt = w6.drewN nd) (fun kv _ => 64 - (intOf kv).toNat)
                    case atStart => exact ⟨0, by omega, rfl, HW.out⟩
                    case round =>
                      rename World => wt
                      clear HW
                      obtain ⟨i, hi, rfl, hwt⟩ := hrel
                      have HW := Lib.hid hwt
                      clear hwt
                      by_cases hlt : i < 64
                      · have hlk : (i : Int) < 64 := by omega
                        obtain ⟨x, hx⟩ : ∃ x, ix[i]? = some x := ⟨ix[i]'(by rw [HL.out]; exact hlt), by rw [List.getElem?_eq_getElem]⟩
                        have d3 : wt.cell? ⟨y3, i, none⟩ = some (.int .i64 (dec x)) := by
                          obtain ⟨nd, rfl⟩ := HW.out
                          exact HC3.out nd i x hx
                        have d6 : wt.cell? ⟨y6, i, none⟩ = some (.int .i64 x) := by
                          obtain ⟨nd, rfl⟩ := HW.out
                          exact HC6.out nd i x hx
                        have t1 := dec_ne x
                        obtain ⟨x1, hx1⟩ : ∃ x1, dec x = x1 := ⟨_, rfl⟩
                        rw [hx1] at d3 t1
                        clear hx hx1
                        go_upto_region 31 with fail
                        go_quiet (fail)
                        go_wp2_with fail
                        go_roundw
                        case rel =>
                          obtain ⟨nd, rfl⟩ := HW.out
                          exact ⟨i + 1, by omega, by go_num, nd + nq, by rw [World.drewN_drewN]⟩
                        case measure => simp [intOf]; omega
                      · obtain rfl : i = 64 := by omega
                        have hSt : LogIs wt w.heap.size TL 32 L ad vs ix := by
                          obtain ⟨nd, rfl⟩ := HW.out
                          exact HQ5.out.log.drewN nd
                        have hBt : Below w.heap.size w wt := by
                          obtain ⟨nd, rfl⟩ := HW.out
                          exact below_drewN HQ5.out.be nd
                        have hcl := a_clear _ _ _ _ _ _ _ hSt.toLogR (by rw [HL.out]; decide) (by rw [HL.out]; exact Nat.le_refl _) hBt.size
                        rw [HL.out, HG.out] at hcl
                        have HBt := Lib.hid hBt
                        have HSt := Lib.hid hSt
                        clear hlt hi HQ5 HC1 HC2 HC3 HC4 HC5 HC6 hle hSt hBt
                        go_upto_region 35 with (first
                          | (go_at_call 22; (with_reducible refine hcl.mono ?_); rintro e w7 ⟨rfl, L7, hR7, hg7, hF7⟩
                             have hS7 : LogIs w7 w.heap.size TL 32 L7 [] [] (List.replicate 64 (-1)) := ⟨hR7, Ok.fresh (by decide) (by decide), by decide⟩
                             have hB7 := HBt.out.trans (HSt.out.step HBt.out.size hF7)
                             have ha7 := a_index _ _ _ _ _ _ _ hS7
                             rw [hg7, HG.out] at ha7)
                          | (go_at_call 19; (with_reducible refine ha7.mono ?_); rintro e w8 ⟨y7, rfl, hy7, hM7, hBl7⟩))
                        have HS8 := Lib.hid (hS7.below hBl7)
                        have HB8 := Lib.hid (hB7.trans (hBl7.mono hB7.size))
                        have HG8 := Lib.hid (hg7.trans HG.out)
                        have HM8 := Lib.hid hM7
                        first | rw [List.length_replicate] | skip
                        clear hcl hR7 hF7 hS7 hB7 ha7 hBl7 hg7 hM7 hy7 HSt HBt
                        go_wp2_with fail
                        go_loop [16] (fun kv => ∃ i : Nat, i ≤ 64 ∧ kv = .int .i64 i) (fun kv => 64 - (intOf kv).toNat)
                        case atStart => exact ⟨0, by omega, rfl⟩
                        case round =>
                          obtain ⟨i, hi, rfl⟩ := hrel
                          by_cases hlt : i < 64
                          · have hlk : (i : Int) < 64 := by omega
                            have d7 := ia_cell HM8.out (show (List.replicate 64 (-1 : Int))[i]? = some (-1) by rw [List.getElem?_replicate, if_pos hlt])
                            go_wp2_with fail
                            go_round
                            case rel => exact ⟨i + 1, by omega, by go_num⟩
                            case measure => simp [intOf]; omega
                          · obtain rfl : i = 64 := by omega
                            have hl8 := a_len _ _ _ _ _ _ _ HS8.out.toLogR
                            have hi8 := a_addrs _ _ _ _ _ _ _ HS8.out
                            rw [HG8.out] at hl8 hi8
                            have hB9 := HB8.out.size
                            go_wp2_with (first
                              | (go_at_call 22; (with_reducible refine (a_clear_nil _).mono ?_); rintro e x0 ⟨rfl, rfl⟩)
                              | (go_at_call 20; (with_reducible refine (a_get_nil _ _).mono ?_); rintro e x1 ⟨rfl, rfl⟩)
                              | (go_at_call 14; (with_reducible refine hl8.mono ?_); rintro e x2 ⟨rfl, rfl⟩)
                              | (go_at_call 16; (with_reducible refine hi8.mono ?_); rintro e x3 ⟨y9, rfl, hy9, hM9, hBl9⟩; have hB10 := HB8.out.trans (hBl9.mono hB9))
                              | (go_at_call 12; (with_reducible refine (a_put_nil _ _ _).mono ?_); rintro e x4 ⟨rfl, rfl⟩)
                              | (go_at_call 14; (with_reducible refine (a_len_nil _).mono ?_); rintro e x5 ⟨rfl, rfl⟩)
                              | (go_at_call 19; (with_reducible refine (a_index_nil _).mono ?_); rintro e x6 ⟨rfl, rfl⟩)
                              | (go_at_call 8; refine (RlE.l_awake _).mono ?_; rintro e x9 ⟨rfl, hb9⟩))
                            go_ret
                            exact ⟨rfl, .of_below (hB10.trans (hb9.mono hB10.size))⟩

/-! The row's step. -/
set_option maxRecDepth 100000 in
theorem lifted (os : Os) (started : os.Started) (H : Type) (enc : TypeId × Value → H) :
    ReturnsInHanded {} Try.checked os 7 .any (Rows.redoClearsSpec.pre6 enc Try.prog Try.f7 Rows.redoClearsRow.domain false) (Rows.redoClearsSpec.post enc Try.prog Try.f7 false true false false) := by
  refine returnsInHanded_of_change (C := Try.checked) own started (by kernel_rfl) Try.func7
    (ChangeSpec.witness6 (enc := enc) (C := Try.checked) false ⟨#[], #[.slice none 0 0], []⟩ 8 (by kernel_rfl) (by kernel_rfl) (by kernel_rfl) (by kernel_rfl)) ?_
  intro W base args ds gs before hval0 hW hcnd _
  have hval : ∀ (j : Nat) t v, Try.f7.params[j]? = some t → args[j]? = some v → Value.okWide Try.prog W .any base t v := hval0
  have hW' := hW
  obtain ⟨p, q, hA0, hV, rfl, hfz, hnd⟩ := hW
  have hA : DataW.TrodAll enc Try.prog W 0 (fun _ => true) true Try.f7.params.toList args.toList ds p := hA0
  rw [Try.params7] at hA hval
  obtain ⟨v0, vs0, d0, ds0, p0, q0, hargs, rfl, rfl, h0, r0⟩ := trodAll_cons hA
  obtain ⟨rfl, rfl, rfl⟩ := trodAll_nil r0
  obtain rfl : args = #[v0] := by cases args; simp_all
  obtain ⟨rfl, rfl⟩ := trodVars_none hV
  have hk : ∀ W', Kept W W' → Rows.redoClearsSpec.post enc Try.prog Try.f7 false true false false W #[v0] (.bool true) W' := fun W' hb =>
    post_law laidOut readable rfl Try.underlying4 rfl hW' rfl hb
  clear hA0 hval0 hA hW'
  obtain ⟨A0, n0, c0, rfl, l0, m0, s0⟩ := RlF.open_row (hval 0 22 v0 rfl rfl) h0
  refine (walk W A0 n0 c0 l0 m0 s0).mono fun e W' ⟨he, hg⟩ => ?_
  subst he
  exact ⟨_, rfl, hk W' hg⟩

theorem over : Rows.redoClearsRow.holds Try.pinned (OpenSpec.ofChange Rows.redoClearsSpec) :=
  OpenClaim.holds_of_wide 7 Try.f7 rfl rfl rfl rfl rfl rfl rfl ⟨rfl, rfl, rfl, rfl, rfl⟩ rfl rfl rfl rfl rfl (by kernel_rfl) Try.func7 (by kernel_rfl)
    (of_decide_eq_true (by kernel_rfl)) (by unfold Func.isWrapper; first | (rw [if_pos (by decide +kernel)]; kernel_rfl) | (rw [if_neg (by decide +kernel)]; exact ⟨rfl, rfl⟩))
    (fun os started H enc _ => lifted os started H enc)

/-- The statement. -/
theorem proved : Rows.RedoClearsSaid :=
  over
#print axioms proved
end Go.Proofs.Ytelpimhgodkmlaa.redoClears
