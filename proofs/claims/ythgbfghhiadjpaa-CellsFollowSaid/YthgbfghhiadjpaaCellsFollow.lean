/-
  Proved: after each of at most 40 operations on cells that exist or do not, the answer and the values of all cells are those of the document. No condition.
-/
import Derived.Test.YthgbfghhiadjpaaRows
import Derived.WalkKit
import Derived.ProofKit
import Derived.OpenShut
import Derived.Test.YthgbfghhiadjpaaFrame
import Derived.Test.YthgbfghhiadjpaaLayO
import Derived.Test.YthgbfghhiadjpaaCelOq
import Derived.Test.YthgbfghhiadjpaaCelDs
import Derived.Test.YthgbfghhiadjpaaCelA
import Derived.Test.YthgbfghhiadjpaaCelB
import Derived.Test.YthgbfghhiadjpaaCelY
import Derived.Test.YthgbfghhiadjpaaCelT
import Derived.Deep.RegionLaw
import Derived.Deep.RegionHeld3
import Derived.Deep.DeepCutAuto
namespace Go.Proofs.Ythgbfghhiadjpaa.cellsFollow
open Go.ChangeShapes Go.WideShapes Go.ChangeAt Go.RowKit
open LawFrame
open Go.ChangeMaps (open_string)
set_option linter.unusedVariables false

theorem own : ownKnob Try.prog.godebug = none := by kernel_rfl
theorem laidOut : laidOutB Try.prog = true := by kernel_rfl

open PlainT BlkW LayS LayA LayH LayK LayO LayP CelS CelM CelP CelV CelN CelO CelI CelY CelF CelB CelZ CelOp CelOq CelQ CelT LabD LabR CelDs
set_option maxHeartbeats 8000000
set_option maxRecDepth 100000
theorem k_place_big (a m : Int) (h0 : 0 < m) (h1 : m ≤ 2000) (w : World) : Calls Try.prog 16 #[.int .i64 a, .int .i64 m] w fun e w' => ∃ v, 0 ≤ v ∧ v ≤ m - 1 ∧ e = .returned (.int .i64 v) ∧ w = w' := by
  have hw : IntKind.u64.wrap m = m := Int.emod_eq_of_lt (by omega) (by show m < 18446744073709551616; omega)
  have hin : 0 ≤ pl a m ∧ pl a m ≤ m - 1 := by
    have hu : 0 ≤ IntKind.u64.wrap a := (bounds_u64 (wf_wrap .u64 a)).1
    unfold pl
    rw [Int.tmod_eq_emod_of_nonneg hu]
    have a0 := Int.emod_nonneg (IntKind.u64.wrap a) (by omega : m ≠ 0)
    have a1 := Int.emod_lt_of_pos (IntKind.u64.wrap a) h0
    rw [IntWalk.wrap64_in _ (by omega)]
    omega
  obtain ⟨v, hv⟩ : ∃ v, pl a m = v := ⟨_, rfl⟩
  rw [hv] at hin
  have HI := Lib.hid hin
  have hv2 : wrap64 ((IntKind.u64.wrap a).tmod m) = v := hv
  clear hv hin
  go_enter Try.func16, Try.ntmps16
  go_wp2
  go_ret
  exact ⟨v, HI.out.1, HI.out.2, by rw [← hv2]; rfl, rfl⟩
theorem A0_out (q : Cfg) (n no nt : Nat) (xs : List Int) (k : Int) (hk : ¬ (1 ≤ k ∧ k ≤ 8)) : A0 q n no nt xs k = [] := by
  unfold A0
  rw [if_neg (by omega), if_neg (by omega), if_neg (by omega), if_neg (by omega), if_neg (by omega), if_neg (by omega)]
theorem k_both2 {w : World} {m2 hi rb base : Nat} {q : Cfg} {A : Int → List Int} {V : Nat → Value} {X : Nat → List Int} {c t s : Int} {vd vo vl vh vn : Value} (hl : ∀ k : Int, (A k).length ≤ 1000) (ho : OwnU w base vd (A 1) ∧ OwnU w base vo (A 2) ∧ OwnU w base vl (A 6) ∧ OwnU w base vh (A 7) ∧ OwnU w base vn (A 8)) (r : Ref m2 hi w rb q A V X c t s) :
    Calls Try.prog 24 #[imgV vd vo c t s vl vh vn, imgV (V 0) (V 1) c t s (V 2) (V 3) (V 4)] w fun e w' => e = .returned (.bool true) ∧ Below w.heap.size w w' :=
  k_image w c t s vd vo vl vh vn (V 0) (V 1) (V 2) (V 3) (V 4) (A 1) (A 2) (A 6) (A 7) (A 8) (rd_own ho.1) (r.a1 ▸ rd_own (r.r.own 0 (by decide))) (rd_own ho.2.1) (r.a2 ▸ rd_own (r.r.own 1 (by decide))) (rd_own ho.2.2.1) (r.a6 ▸ rd_own (r.r.own 2 (by decide))) (rd_own ho.2.2.2.1) (r.a7 ▸ rd_own (r.r.own 3 (by decide))) (rd_own ho.2.2.2.2) (r.a8 ▸ rd_own (r.r.own 4 (by decide))) (hl 1) (hl 2) (hl 6) (hl 7) (hl 8)
/-- What the loop carries. -/
structure FW (w0 : World) (lo hi b rb : Nat) (q : Cfg) (A : Int → List Int) (w : World) : Prop where
  duo : Duo lo hi w b rb q A A
  lo : w0.heap.size ≤ lo
  old : Below w0.heap.size w0 w
/-- What a round holds: the operation's box besides. -/
structure FB (w0 : World) (lo hi b rb : Nat) (q : Cfg) (A : Int → List Int) (g : Nat) (k c x o v : Int) (w : World) : Prop where
  fw : FW w0 lo hi b rb q A w
  bx : Mem w g 51 #[.int .i64 k, .int .i64 c, .int .i64 x, .int .u64 o, .int .u64 v]
  hg : hi ≤ g
section
variable {w0 w w' : World} {lo hi b rb g : Nat} {q : Cfg} {A : Int → List Int} {k c x o v : Int}
theorem FW.below (h : FW w0 lo hi b rb q A w) (k : Below w.heap.size w w') : FW w0 lo hi b rb q A w' := ⟨h.duo.below k, h.lo, h.old.trans (k.mono h.old.size)⟩
theorem FW.set_ (h : FW w0 lo hi b rb q A w) (g j : Nat) (hg : hi ≤ g) (hw : w0.heap.size ≤ g) (u : Value) : FW w0 lo hi b rb q A (w.setCell ⟨g, j, none⟩ u) := ⟨h.duo.set_ ⟨g, j, none⟩ (.inr hg) u, h.lo, h.old.setCell hw u⟩
theorem FB.drewN (h : FB w0 lo hi b rb q A g k c x o v w) (n : Nat) : FB w0 lo hi b rb q A g k c x o v (w.drewN n) := ⟨h.fw.below (below_drewN (Below.refl _ w) n), h.bx.drewN n, h.hg⟩
theorem FB.gw (h : FB w0 lo hi b rb q A g k c x o v w) : w0.heap.size ≤ g := by
  obtain ⟨m1, m2, h1, h2, hm, _⟩ := h.fw.duo
  have := Is.le h1
  have := RefIs.le h2
  have := h.fw.lo
  have := h.hg
  omega
theorem FB.set1 (h : FB w0 lo hi b rb q A g k c x o v w) (c' : Int) : FB w0 lo hi b rb q A g k c' x o v (w.setCell ⟨g, 1, none⟩ (.int .i64 c')) := ⟨h.fw.set_ g 1 h.hg h.gw _, by have := h.bx.set_ 1 (.int .i64 c'); simpa using this, h.hg⟩
theorem FB.set2 (h : FB w0 lo hi b rb q A g k c x o v w) (x' : Int) : FB w0 lo hi b rb q A g k c x' o v (w.setCell ⟨g, 2, none⟩ (.int .i64 x')) := ⟨h.fw.set_ g 2 h.hg h.gw _, by have := h.bx.set_ 2 (.int .i64 x'); simpa using this, h.hg⟩
theorem FB.set3 (h : FB w0 lo hi b rb q A g k c x o v w) (o' : Int) : FB w0 lo hi b rb q A g k c x o' v (w.setCell ⟨g, 3, none⟩ (.int .u64 o')) := ⟨h.fw.set_ g 3 h.hg h.gw _, by have := h.bx.set_ 3 (.int .u64 o'); simpa using this, h.hg⟩
theorem fb_size (h : FB w0 lo hi b rb q A g k c x o v w) (j : Int) : Calls Try.prog 26 #[.pointer (some ⟨rb, 0, none⟩), .int .i64 j] w fun e w' => e = .returned (.int .i64 (A j).length) ∧ w = w' := by
  obtain ⟨m1, m2, h1, h2, hm, ho⟩ := h.fw.duo
  exact r_size m2 hi w rb q A h2 ho j
theorem fb_get (h : FB w0 lo hi b rb q A g k c x o v w) (j : Int) (hj : 1 ≤ j ∧ j ≤ 8) (i : Nat) (hi' : i < (A j).length) : Calls Try.prog 27 #[.pointer (some ⟨rb, 0, none⟩), .int .i64 j, .int .i64 i] w fun e w' => e = .returned (.int .u64 ((A j).getD i 0)) ∧ w = w' := by
  obtain ⟨m1, m2, h1, h2, hm, ho⟩ := h.fw.duo
  exact r_get m2 hi w rb q A h2 j hj i hi' _ rfl
theorem is_len {w : World} {lo hi b : Nat} {A : Int → List Int} (h : Is lo hi w b A) (k : Int) : (A k).length ≤ 1000 := by
  obtain ⟨bm, g, h⟩ := h
  exact h.len k
theorem fw_end {w0 w w5 w6 w7 : World} {lo hi b rb m1 m2 : Nat} {q : Cfg} {A A' : Int → List Int} {V : Nat → Value} {X : Nat → List Int} {c t s : Int} (h : FW w0 lo hi b rb q A w) (h5 : Stay lo hi w w5) (hI : Is lo m1 w6 b A') (h6 : Stay lo m1 w5 w6) (hR : Ref m2 hi w6 rb q A' V X c t s) (hm : m1 ≤ m2) (ho : ∀ k, ¬ (1 ≤ k ∧ k ≤ 8) → A' k = []) (h7 : Below w6.heap.size w6 w7) : FW w0 lo hi b rb q A' w7 := by
  have l2 : m2 ≤ hi := RefIs.le ⟨V, X, c, t, s, hR⟩
  have hd : Duo lo hi w6 b rb q A' A' := ⟨m1, m2, hI, ⟨V, X, c, t, s, hR⟩, hm, ho⟩
  have o5 := h.old.trans (h5.below h.lo h.old.size)
  have o6 := o5.trans (h6.below h.lo o5.size)
  exact ⟨hd.below h7, h.lo, o6.trans (h7.mono o6.size)⟩
end

theorem readable : ∀ t ∈ Try.f5.params.toList, Try.prog.readableRec t = true ∧ t < Try.prog.types.size := by
  have h : (Try.f5.params.toList.all fun t => Try.prog.readableRec t && decide (t < Try.prog.types.size)) = true := by kernel_rfl
  intro t ht
  have := List.all_eq_true.1 h t ht
  simpa using this

/-! The walk. -/
theorem walk (w : World) (x0_0 x0_1 x0_2 x0_3 x0_4 : Int) (wx0_0 : LayS.InI x0_0) (wx0_1 : LayS.InI x0_1) (wx0_2 : LayS.InI x0_2) (wx0_3 : LayS.InI x0_3) (wx0_4 : LayS.InI x0_4) (a1 : Int) (w1 : (Lit.int .i64 a1).wf = true) (A2 : Option Addr) (n2 c2 : Nat) (l2 : n2 ≤ c2) (m2 : c2 ≤ maxLen) (s2 : CelOq.RowO w A2 n2) (a3 : Bool) :
    Calls Try.prog 5 #[.agg #[.int .i64 x0_0, .int .i64 x0_1, .int .i64 x0_2, .int .i64 x0_3, .int .i64 x0_4], .int .i64 a1, .slice A2 n2 c2, .bool a3] w fun e w' => e = .returned (.bool true) ∧ Kept w w' := by
  show Calls _ _ #[.agg _, _, _, _] _ _
  clear wx0_0 wx0_1 wx0_2 wx0_3 wx0_4 w1
  have HB0 := Lib.hid (below_new w (.cells #[.int .i64 x0_0, .int .i64 x0_1, .int .i64 x0_2, .int .i64 x0_3, .int .i64 x0_4] 22))
  have HZ := Lib.hid s2
  clear s2
  go_enter Try.func5, Try.ntmps5
  by_cases hbig : (40 : Int) < n2
  · go_wp2_with fail
    refine (CelA.l_awake _).mono ?_
    rintro e w3 ⟨rfl, hb1⟩
    have HB1 := Lib.hid (below_trans2 HB0.out hb1)
    clear hb1
    go_wp2
    go_ret
    exact ⟨rfl, .of_below HB1.out⟩
  · have hn40 : (n2 : Int) ≤ 40 := by omega
    clear hbig
    go_upto_region 6 with (go_at_call 21; refine (l_start _ _ _ _ _ _ _).mono ?_; rintro e w1' ⟨q, n, no, nt, lo, hi1, lo2, hi, b, rb, rfl, hst⟩)
    obtain ⟨w0, hw0⟩ : ∃ w0, w.alloc (.cells #[.int .i64 x0_0, .int .i64 x0_1, .int .i64 x0_2, .int .i64 x0_3, .int .i64 x0_4] 22) = w0 := ⟨_, rfl⟩
    rw [hw0] at HB0 hst
    clear hw0
    have HF : Hid (FW w0 lo hi b rb q (A0 q n no nt (gen q.w.toNat)) w1') := Lib.hid ⟨⟨hi1, lo2, hst.mem, hst.ref, hst.mid, A0_out q n no nt _⟩, hst.lo, hst.old⟩
    clear hst
    go_wp2_with fail
    go_loopw [12] (fun iv wr => ∃ (i : Nat) (A : Int → List Int), i ≤ n2 ∧ iv = .int .i64 i ∧ FW w0 lo hi b rb q A wr) (fun iv _ => n2 - (intOf iv).toNat)
    case atStart => exact ⟨0, _, by omega, rfl, HF.out⟩
    case round =>
      clear HF
      obtain ⟨i, A, hi2, rfl, hf⟩ := hrel
      have HF := Lib.hid hf
      clear hf
      by_cases hlt : i < n2
      · have hltI : (i : Int) < n2 := by omega
        obtain ⟨tb, toff, k, c, x, o, v, rfl, z0, z1, z2, z3, z4, hou⟩ := HZ.out.at_ (below_trans2 HB0.out HF.out.old) hlt
        have HB := Lib.hid (show FB w0 lo hi b rb q A wr.heap.size k c x o v (wr.alloc (.cells #[.int .i64 k, .int .i64 c, .int .i64 x, .int .u64 o, .int .u64 v] 51)) from ⟨HF.out.below (below_new _ _), Mem.new _ _ _, HF.out.duo.top⟩)
        go_upto_region 10 with (fail)
        obtain ⟨g, hg⟩ : ∃ g, wr.heap.size = g := ⟨_, rfl⟩
        rw [hg] at HB
        first | rw [hg] | skip
        obtain ⟨W, hW⟩ : ∃ W, wr.alloc (.cells #[.int .i64 k, .int .i64 c, .int .i64 x, .int .u64 o, .int .u64 v] 51) = W := ⟨_, rfl⟩
        rw [hW] at HB
        first | rw [hW] | skip
        clear hW hg HF z0 z1 z2 z3 z4
        have g0 := HB.out.bx.cell 0
        have g1 := HB.out.bx.cell 1
        have g2 := HB.out.bx.cell 2
        have g3 := HB.out.bx.cell 3
        have g4 := HB.out.bx.cell 4
        have gz := HB.out.bx.frozen
        simp at g0 g1 g2 g3 g4
        cases a3 with
        | true =>
          go_upto_if 42 with fail
          go_cut [13] (fun sv wc => sv = .pointer (some ⟨g, 0, none⟩) ∧ ∃ c' x' o', FB w0 lo hi b rb q A g k c' x' o' v wc)
          case first =>
            go_upto_region 12 with (go_at_call 16; refine (k_place_ex _ _ (by omega) (by omega) _).mono ?_; rintro e w9 ⟨p, p0, p1, rfl, rfl⟩)
            obtain ⟨kc, hkc⟩ : ∃ kc, 1 + p = kc := ⟨_, rfl⟩
            rw [hkc]
            have hck : 1 ≤ kc ∧ kc ≤ 8 := by omega
            clear hkc p0 p1
            have HB2 := Lib.hid (HB.out.set1 kc)
            obtain ⟨W2, hW⟩ : ∃ W2, W.setCell ⟨g, 1, none⟩ (.int .i64 kc) = W2 := ⟨_, rfl⟩
            rw [hW] at HB2
            first | rw [hW] | skip
            clear hW g0 g1 g2 g3 g4 gz HB
            have HB := HB2
            have hlen := HB.out.fw.duo.len kc
            have g0 := HB.out.bx.cell 0
            have g1 := HB.out.bx.cell 1
            have g2 := HB.out.bx.cell 2
            have g3 := HB.out.bx.cell 3
            have g4 := HB.out.bx.cell 4
            have gz := HB.out.bx.frozen
            simp at g0 g1 g2 g3 g4
            have hsz := fb_size (w := W2.drew) (HB.out.drewN 1) kc
            obtain ⟨N, hN⟩ : ∃ N, (A kc).length = N := ⟨_, rfl⟩
            have HN := Lib.hid hN
            rw [hN] at hsz hlen
            clear hN
            have hwN : IntKind.i64.wrap ((N : Int) + 1) = N + 1 := IntWalk.i64_in _ (by omega)
            have hpl := k_place_big x ((N : Int) + 1) (by omega) (by omega) W2.drew
            clear HB2
            go_wp2_with fail
            first | go_region_law (first
              | (go_simp; go_at_call 26; (with_reducible refine hsz.mono ?_); rintro e w10 ⟨rfl, rfl⟩)
              | (go_simp; go_at_call 16; (with_reducible refine hpl.mono ?_); rintro e w11 ⟨y, y0, y1, rfl, rfl⟩)) | fail
            all_goals
              obtain ⟨j, hj⟩ : ∃ j : Nat, y = j := ⟨y.toNat, by omega⟩
              subst hj
              have HB2 := Lib.hid ((HB.out.set2 j).drewN 1)
              obtain ⟨W3, hW⟩ : ∃ W3, (W2.setCell ⟨g, 2, none⟩ (.int .i64 j)).drewN 1 = W3 := ⟨_, rfl⟩
              first | rw [show (W2.setCell ⟨g, 2, none⟩ (.int .i64 j)).drew = (W2.setCell ⟨g, 2, none⟩ (.int .i64 j)).drewN 1 from rfl] | skip
              rw [hW] at HB2
              first | rw [hW] | skip
              clear hW g0 g1 g2 g3 g4 gz HB hsz hpl
              have HB := HB2
              clear HB2
              have g0 := HB.out.bx.cell 0
              have g1 := HB.out.bx.cell 1
              have g2 := HB.out.bx.cell 2
              have g3 := HB.out.bx.cell 3
              have g4 := HB.out.bx.cell 4
              have gz := HB.out.bx.frozen
              simp at g0 g1 g2 g3 g4
              have hsz := fb_size (w := W3.drew) (HB.out.drewN 1) kc
              rw [HN.out] at hsz
              by_cases hjN : j < N
              · have hjI : (j : Int) < N := by omega
                have ho0 : 0 ≤ o := hou.1
                have ho1 : o ≤ 18446744073709551615 := hou.2
                obtain ⟨z, hz⟩ : ∃ z, (o.tmod 2 == 0) = z := ⟨_, rfl⟩
                have hs0 : W3.drew.cell? ⟨g, 1, none⟩ = some (.int .i64 kc) ∧ W3.drew.cell? ⟨g, 2, none⟩ = some (.int .i64 j) ∧ W3.drew.cell? ⟨g, 3, none⟩ = some (.int .u64 o) := ⟨g1, g2, g3⟩
                go_wp2_with fail
                go_region_held3 (fun W => W.cell? ⟨g, 1, none⟩ = some (.int .i64 kc) ∧ W.cell? ⟨g, 2, none⟩ = some (.int .i64 j) ∧ W.cell? ⟨g, 3, none⟩ = some (.int .u64 o)) (first | exact hs0 | assumption) (first
                  | (go_at_call 26; (with_reducible refine hsz.mono ?_); rintro e w12 ⟨rfl, rfl⟩))
                have hgt := fb_get (w := W3.drewN 1) (HB.out.drewN 1) kc hck j (by rw [HN.out]; exact hjN)
                obtain ⟨yv, hyv⟩ : ∃ yv, (A kc).getD j 0 = yv := ⟨_, rfl⟩
                rw [hyv] at hgt
                clear hyv hs0 hsz
                cases z with
                | true =>
                  go_wp2_with (go_at_call 27; refine hgt.mono ?_; rintro e w13 ⟨rfl, rfl⟩)
                  go_meet
                  exact ⟨rfl, kc, j, yv, (HB.out.drewN 1).set3 yv⟩
                | false =>
                  go_wp2_with fail
                  go_meet
                  exact ⟨rfl, kc, j, o, HB.out.drewN 1⟩
              · have hjI : (N : Int) ≤ j := by omega
                have hjd : decide ((j : Int) < N) = false := decide_eq_false (by omega)
                go_wp2_with fail
                first | go_region_law (first
                  | (go_simp; go_at_call 26; (with_reducible refine hsz.mono ?_); rintro e w12 ⟨rfl, rfl⟩)) | fail
                all_goals
                  go_wp2_with fail
                  go_meet
                  exact ⟨rfl, kc, j, o, HB.out.drewN 1⟩
          case rest =>
            clear HB g0 g1 g2 g3 g4 gz
            obtain ⟨rfl, c, x, o, hfb⟩ := hcut
            have HB := Lib.hid hfb
            clear hfb
            have g0 := HB.out.bx.cell 0
            have g1 := HB.out.bx.cell 1
            have g2 := HB.out.bx.cell 2
            have g3 := HB.out.bx.cell 3
            have g4 := HB.out.bx.cell 4
            have gz := HB.out.bx.frozen
            simp at g0 g1 g2 g3 g4
            have hdo := fun W' (hw : Duo lo hi W' b rb q A A) => l_does hw k c x o v
            clear gz
            go_wp2_with fail
            have HBD := Lib.hid (HB.out.drewN 1)
            have hdo1 := hdo wc.drew HBD.out.fw.duo
            first | go_region_law (first
              | (go_simp; go_at_call 28; (with_reducible refine hdo1.mono ?_); rintro e w5 ⟨rfl, A', hD5, hS5⟩; obtain ⟨m1, m2, hI5, ⟨V, X, cc, tt, ss, hR5⟩, hm5, ho5⟩ := hD5; have v0 := hR5.r.bx.cell 13; have v1 := hR5.r.bx.cell 14; have v2 := hR5.r.bx.cell 15; have v3 := hR5.r.bx.cell 16; have v4 := hR5.r.bx.cell 17; have v5 := hR5.r.bx.cell 18; have v6 := hR5.r.bx.cell 19; have v7 := hR5.r.bx.cell 20; simp at v0 v1 v2 v3 v4 v5 v6 v7)
              | (go_simp; go_at_call 25; (with_reducible refine (m_image lo m1 w5 b A' hI5 cc tt ss hR5.a3 hR5.a4 hR5.a5).mono ?_); rintro e w6 ⟨vd, vo, vl, vh, vn, rfl, hown6, hI6, hS6⟩; have hR6 := hR5.of_blocks (Nat.le_trans hR5.top hS6.size) (fun y a1 a2 => hS6.block y (Nat.lt_of_lt_of_le a2 hR5.top) (.inr (by omega))); have v0 := hR6.r.bx.cell 13; have v1 := hR6.r.bx.cell 14; have v2 := hR6.r.bx.cell 15; have v3 := hR6.r.bx.cell 16; have v4 := hR6.r.bx.cell 17; have v5 := hR6.r.bx.cell 18; have v6 := hR6.r.bx.cell 19; have v7 := hR6.r.bx.cell 20; simp at v0 v1 v2 v3 v4 v5 v6 v7)
              | (go_simp; go_at_call 24; (with_reducible refine (k_both2 (is_len hI5) hown6 hR6).mono ?_); rintro e w7 ⟨rfl, hb7⟩)) | fail
            all_goals
              have HFN : Hid (FW w0 lo hi b rb q A' w7) := Lib.hid (fw_end HBD.out.fw hS5 hI6 hS6 hR6 hm5 ho5 hb7)
              clear hb7 hS5 hS6 hI6 hR6 hI5 hR5 hown6 v0 v1 v2 v3 v4 v5 v6 v7
              go_wp2_with fail
              go_roundw
              case rel => exact ⟨i + 1, A', by omega, by go_num, HFN.out⟩
              case measure => simp [intOf]; omega
        | false =>
          by_cases hev : (i : Int) % 2 = 0
          · have hevb : ((i : Int) % 2 == 0) = true := by simpa using hev
            clear hev
            go_upto_if 42 with fail
            go_cut [13] (fun sv wc => sv = .pointer (some ⟨g, 0, none⟩) ∧ ∃ c' x' o', FB w0 lo hi b rb q A g k c' x' o' v wc)
            case first =>
              go_upto_region 12 with (go_at_call 16; refine (k_place_ex _ _ (by omega) (by omega) _).mono ?_; rintro e w9 ⟨p, p0, p1, rfl, rfl⟩)
              obtain ⟨kc, hkc⟩ : ∃ kc, 1 + p = kc := ⟨_, rfl⟩
              rw [hkc]
              have hck : 1 ≤ kc ∧ kc ≤ 8 := by omega
              clear hkc p0 p1
              have HB2 := Lib.hid (HB.out.set1 kc)
              obtain ⟨W2, hW⟩ : ∃ W2, W.setCell ⟨g, 1, none⟩ (.int .i64 kc) = W2 := ⟨_, rfl⟩
              rw [hW] at HB2
              first | rw [hW] | skip
              clear hW g0 g1 g2 g3 g4 gz HB
              have HB := HB2
              have hlen := HB.out.fw.duo.len kc
              have g0 := HB.out.bx.cell 0
              have g1 := HB.out.bx.cell 1
              have g2 := HB.out.bx.cell 2
              have g3 := HB.out.bx.cell 3
              have g4 := HB.out.bx.cell 4
              have gz := HB.out.bx.frozen
              simp at g0 g1 g2 g3 g4
              have hsz := fb_size (w := W2.drew) (HB.out.drewN 1) kc
              obtain ⟨N, hN⟩ : ∃ N, (A kc).length = N := ⟨_, rfl⟩
              have HN := Lib.hid hN
              rw [hN] at hsz hlen
              clear hN
              have hwN : IntKind.i64.wrap ((N : Int) + 1) = N + 1 := IntWalk.i64_in _ (by omega)
              have hpl := k_place_big x ((N : Int) + 1) (by omega) (by omega) W2.drew
              clear HB2
              go_wp2_with fail
              first | go_region_law (first
                | (go_simp; go_at_call 26; (with_reducible refine hsz.mono ?_); rintro e w10 ⟨rfl, rfl⟩)
                | (go_simp; go_at_call 16; (with_reducible refine hpl.mono ?_); rintro e w11 ⟨y, y0, y1, rfl, rfl⟩)) | fail
              all_goals
                obtain ⟨j, hj⟩ : ∃ j : Nat, y = j := ⟨y.toNat, by omega⟩
                subst hj
                have HB2 := Lib.hid ((HB.out.set2 j).drewN 1)
                obtain ⟨W3, hW⟩ : ∃ W3, (W2.setCell ⟨g, 2, none⟩ (.int .i64 j)).drewN 1 = W3 := ⟨_, rfl⟩
                first | rw [show (W2.setCell ⟨g, 2, none⟩ (.int .i64 j)).drew = (W2.setCell ⟨g, 2, none⟩ (.int .i64 j)).drewN 1 from rfl] | skip
                rw [hW] at HB2
                first | rw [hW] | skip
                clear hW g0 g1 g2 g3 g4 gz HB hsz hpl
                have HB := HB2
                clear HB2
                have g0 := HB.out.bx.cell 0
                have g1 := HB.out.bx.cell 1
                have g2 := HB.out.bx.cell 2
                have g3 := HB.out.bx.cell 3
                have g4 := HB.out.bx.cell 4
                have gz := HB.out.bx.frozen
                simp at g0 g1 g2 g3 g4
                have hsz := fb_size (w := W3.drew) (HB.out.drewN 1) kc
                rw [HN.out] at hsz
                by_cases hjN : j < N
                · have hjI : (j : Int) < N := by omega
                  have ho0 : 0 ≤ o := hou.1
                  have ho1 : o ≤ 18446744073709551615 := hou.2
                  obtain ⟨z, hz⟩ : ∃ z, (o.tmod 2 == 0) = z := ⟨_, rfl⟩
                  have hs0 : W3.drew.cell? ⟨g, 1, none⟩ = some (.int .i64 kc) ∧ W3.drew.cell? ⟨g, 2, none⟩ = some (.int .i64 j) ∧ W3.drew.cell? ⟨g, 3, none⟩ = some (.int .u64 o) := ⟨g1, g2, g3⟩
                  go_wp2_with fail
                  go_region_held3 (fun W => W.cell? ⟨g, 1, none⟩ = some (.int .i64 kc) ∧ W.cell? ⟨g, 2, none⟩ = some (.int .i64 j) ∧ W.cell? ⟨g, 3, none⟩ = some (.int .u64 o)) (first | exact hs0 | assumption) (first
                    | (go_at_call 26; (with_reducible refine hsz.mono ?_); rintro e w12 ⟨rfl, rfl⟩))
                  have hgt := fb_get (w := W3.drewN 1) (HB.out.drewN 1) kc hck j (by rw [HN.out]; exact hjN)
                  obtain ⟨yv, hyv⟩ : ∃ yv, (A kc).getD j 0 = yv := ⟨_, rfl⟩
                  rw [hyv] at hgt
                  clear hyv hs0 hsz
                  cases z with
                  | true =>
                    go_wp2_with (go_at_call 27; refine hgt.mono ?_; rintro e w13 ⟨rfl, rfl⟩)
                    go_meet
                    exact ⟨rfl, kc, j, yv, (HB.out.drewN 1).set3 yv⟩
                  | false =>
                    go_wp2_with fail
                    go_meet
                    exact ⟨rfl, kc, j, o, HB.out.drewN 1⟩
                · have hjI : (N : Int) ≤ j := by omega
                  have hjd : decide ((j : Int) < N) = false := decide_eq_false (by omega)
                  go_wp2_with fail
                  first | go_region_law (first
                    | (go_simp; go_at_call 26; (with_reducible refine hsz.mono ?_); rintro e w12 ⟨rfl, rfl⟩)) | fail
                  all_goals
                    go_wp2_with fail
                    go_meet
                    exact ⟨rfl, kc, j, o, HB.out.drewN 1⟩
            case rest =>
              clear HB g0 g1 g2 g3 g4 gz
              obtain ⟨rfl, c, x, o, hfb⟩ := hcut
              have HB := Lib.hid hfb
              clear hfb
              have g0 := HB.out.bx.cell 0
              have g1 := HB.out.bx.cell 1
              have g2 := HB.out.bx.cell 2
              have g3 := HB.out.bx.cell 3
              have g4 := HB.out.bx.cell 4
              have gz := HB.out.bx.frozen
              simp at g0 g1 g2 g3 g4
              have hdo := fun W' (hw : Duo lo hi W' b rb q A A) => l_does hw k c x o v
              clear gz
              go_wp2_with fail
              have HBD := Lib.hid (HB.out.drewN 1)
              have hdo1 := hdo wc.drew HBD.out.fw.duo
              first | go_region_law (first
                | (go_simp; go_at_call 28; (with_reducible refine hdo1.mono ?_); rintro e w5 ⟨rfl, A', hD5, hS5⟩; obtain ⟨m1, m2, hI5, ⟨V, X, cc, tt, ss, hR5⟩, hm5, ho5⟩ := hD5; have v0 := hR5.r.bx.cell 13; have v1 := hR5.r.bx.cell 14; have v2 := hR5.r.bx.cell 15; have v3 := hR5.r.bx.cell 16; have v4 := hR5.r.bx.cell 17; have v5 := hR5.r.bx.cell 18; have v6 := hR5.r.bx.cell 19; have v7 := hR5.r.bx.cell 20; simp at v0 v1 v2 v3 v4 v5 v6 v7)
                | (go_simp; go_at_call 25; (with_reducible refine (m_image lo m1 w5 b A' hI5 cc tt ss hR5.a3 hR5.a4 hR5.a5).mono ?_); rintro e w6 ⟨vd, vo, vl, vh, vn, rfl, hown6, hI6, hS6⟩; have hR6 := hR5.of_blocks (Nat.le_trans hR5.top hS6.size) (fun y a1 a2 => hS6.block y (Nat.lt_of_lt_of_le a2 hR5.top) (.inr (by omega))); have v0 := hR6.r.bx.cell 13; have v1 := hR6.r.bx.cell 14; have v2 := hR6.r.bx.cell 15; have v3 := hR6.r.bx.cell 16; have v4 := hR6.r.bx.cell 17; have v5 := hR6.r.bx.cell 18; have v6 := hR6.r.bx.cell 19; have v7 := hR6.r.bx.cell 20; simp at v0 v1 v2 v3 v4 v5 v6 v7)
                | (go_simp; go_at_call 24; (with_reducible refine (k_both2 (is_len hI5) hown6 hR6).mono ?_); rintro e w7 ⟨rfl, hb7⟩)) | fail
              all_goals
                have HFN : Hid (FW w0 lo hi b rb q A' w7) := Lib.hid (fw_end HBD.out.fw hS5 hI6 hS6 hR6 hm5 ho5 hb7)
                clear hb7 hS5 hS6 hI6 hR6 hI5 hR5 hown6 v0 v1 v2 v3 v4 v5 v6 v7
                go_wp2_with fail
                go_roundw
                case rel => exact ⟨i + 1, A', by omega, by go_num, HFN.out⟩
                case measure => simp [intOf]; omega
          · have hevb : ((i : Int) % 2 == 0) = false := by simpa using hev
            clear hev
            go_upto_region 15 with (fail)
            have hdo := fun W' (hw : Duo lo hi W' b rb q A A) => l_does hw k c x o v
            clear gz
            go_wp2_with fail
            have HBD := Lib.hid (HB.out.drewN 1)
            have hdo1 := hdo W.drew HBD.out.fw.duo
            first | go_region_law (first
              | (go_simp; go_at_call 28; (with_reducible refine hdo1.mono ?_); rintro e w5 ⟨rfl, A', hD5, hS5⟩; obtain ⟨m1, m2, hI5, ⟨V, X, cc, tt, ss, hR5⟩, hm5, ho5⟩ := hD5; have v0 := hR5.r.bx.cell 13; have v1 := hR5.r.bx.cell 14; have v2 := hR5.r.bx.cell 15; have v3 := hR5.r.bx.cell 16; have v4 := hR5.r.bx.cell 17; have v5 := hR5.r.bx.cell 18; have v6 := hR5.r.bx.cell 19; have v7 := hR5.r.bx.cell 20; simp at v0 v1 v2 v3 v4 v5 v6 v7)
              | (go_simp; go_at_call 25; (with_reducible refine (m_image lo m1 w5 b A' hI5 cc tt ss hR5.a3 hR5.a4 hR5.a5).mono ?_); rintro e w6 ⟨vd, vo, vl, vh, vn, rfl, hown6, hI6, hS6⟩; have hR6 := hR5.of_blocks (Nat.le_trans hR5.top hS6.size) (fun y a1 a2 => hS6.block y (Nat.lt_of_lt_of_le a2 hR5.top) (.inr (by omega))); have v0 := hR6.r.bx.cell 13; have v1 := hR6.r.bx.cell 14; have v2 := hR6.r.bx.cell 15; have v3 := hR6.r.bx.cell 16; have v4 := hR6.r.bx.cell 17; have v5 := hR6.r.bx.cell 18; have v6 := hR6.r.bx.cell 19; have v7 := hR6.r.bx.cell 20; simp at v0 v1 v2 v3 v4 v5 v6 v7)
              | (go_simp; go_at_call 24; (with_reducible refine (k_both2 (is_len hI5) hown6 hR6).mono ?_); rintro e w7 ⟨rfl, hb7⟩)) | fail
            all_goals
              have HFN : Hid (FW w0 lo hi b rb q A' w7) := Lib.hid (fw_end HBD.out.fw hS5 hI6 hS6 hR6 hm5 ho5 hb7)
              clear hb7 hS5 hS6 hI6 hR6 hI5 hR5 hown6 v0 v1 v2 v3 v4 v5 v6 v7
              go_wp2_with fail
              go_roundw
              case rel => exact ⟨i + 1, A', by omega, by go_num, HFN.out⟩
              case measure => simp [intOf]; omega
      · obtain rfl : i = n2 := by omega
        go_wp2_with fail
        refine (CelA.l_awake _).mono ?_
        rintro e w6 ⟨rfl, hb6⟩
        have HB6 := Lib.hid (below_trans2 HB0.out (below_trans2 HF.out.old hb6))
        clear hb6
        go_wp2
        go_ret
        exact ⟨rfl, .of_below HB6.out⟩

/-! The row's step. -/
set_option maxRecDepth 100000 in
theorem lifted (os : Os) (started : os.Started) (H : Type) (enc : TypeId × Value → H) :
    ReturnsInHanded {} Try.checked os 5 .any (Rows.cellsFollowSpec.pre6 enc Try.prog Try.f5 Rows.cellsFollowRow.domain false) (Rows.cellsFollowSpec.post enc Try.prog Try.f5 false true false false) := by
  refine returnsInHanded_of_change (C := Try.checked) own started (by kernel_rfl) Try.func5
    (ChangeSpec.witness6 (enc := enc) (C := Try.checked) false ⟨#[], #[.agg #[.int .i64 0, .int .i64 0, .int .i64 0, .int .i64 0, .int .i64 0], .int .i64 0, .slice none 0 0, .bool false], []⟩ 8 (by kernel_rfl) (by kernel_rfl) (by kernel_rfl) (by kernel_rfl)) ?_
  intro W base args ds gs before hval0 hW hcnd _
  have hval : ∀ (j : Nat) t v, Try.f5.params[j]? = some t → args[j]? = some v → Value.okWide Try.prog W .any base t v := hval0
  have hW' := hW
  obtain ⟨p, q, hA0, hV, rfl, hfz, hnd⟩ := hW
  have hA : DataW.TrodAll enc Try.prog W 0 (fun _ => true) true Try.f5.params.toList args.toList ds p := hA0
  rw [Try.params5] at hA hval
  obtain ⟨v0, vs0, d0, ds0, p0, q0, hargs, rfl, rfl, h0, r0⟩ := trodAll_cons hA
  obtain ⟨v1, vs1, d1, ds1, p1, q1, rfl, rfl, rfl, h1, r1⟩ := trodAll_cons r0
  obtain ⟨v2, vs2, d2, ds2, p2, q2, rfl, rfl, rfl, h2, r2⟩ := trodAll_cons r1
  obtain ⟨v3, vs3, d3, ds3, p3, q3, rfl, rfl, rfl, h3, r3⟩ := trodAll_cons r2
  obtain ⟨rfl, rfl, rfl⟩ := trodAll_nil r3
  obtain rfl : args = #[v0, v1, v2, v3] := by cases args; simp_all
  obtain ⟨rfl, rfl⟩ := trodVars_none hV
  have hk : ∀ W', Kept W W' → Rows.cellsFollowSpec.post enc Try.prog Try.f5 false true false false W #[v0, v1, v2, v3] (.bool true) W' := fun W' hb =>
    post_law laidOut readable rfl Try.underlying4 rfl hW' rfl hb
  clear hA0 hval0 hA hW'
  obtain ⟨x0_0, x0_1, x0_2, x0_3, x0_4, rfl, wx0_0, wx0_1, wx0_2, wx0_3, wx0_4⟩ := LayO.open_arr5 (hval 0 22 v0 rfl rfl) h0
  obtain ⟨a1, rfl, rfl, rfl, w1⟩ := open_int Try.underlying3 (hval 1 3 v1 rfl rfl) h1
  obtain ⟨A2, n2, c2, rfl, l2, m2, s2⟩ := CelOq.open_row (hval 2 49 v2 rfl rfl) h2
  obtain ⟨a3, rfl, rfl, rfl⟩ := open_bool Try.underlying4 (hval 3 4 v3 rfl rfl) h3
  refine (walk W x0_0 x0_1 x0_2 x0_3 x0_4 wx0_0 wx0_1 wx0_2 wx0_3 wx0_4 a1 w1 A2 n2 c2 l2 m2 s2 a3).mono fun e W' ⟨he, hg⟩ => ?_
  subst he
  exact ⟨_, rfl, hk W' hg⟩

theorem over : Rows.cellsFollowRow.holds Try.pinned (OpenSpec.ofChange Rows.cellsFollowSpec) :=
  OpenClaim.holds_of_wide 5 Try.f5 rfl rfl rfl rfl rfl rfl rfl ⟨rfl, rfl, rfl, rfl, rfl⟩ rfl rfl rfl rfl rfl (by kernel_rfl) Try.func5 (by kernel_rfl)
    (of_decide_eq_true (by kernel_rfl)) (by unfold Func.isWrapper; first | (rw [if_pos (by decide +kernel)]; kernel_rfl) | (rw [if_neg (by decide +kernel)]; exact ⟨rfl, rfl⟩))
    (fun os started H enc _ => lifted os started H enc)

/-- The statement. -/
theorem proved : Rows.CellsFollowSaid :=
  over
#print axioms proved
end Go.Proofs.Ythgbfghhiadjpaa.cellsFollow
