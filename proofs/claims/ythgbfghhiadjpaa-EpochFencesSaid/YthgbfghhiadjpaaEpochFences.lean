/-
  Proved: a fence makes the operations of the document, step by step, whatever the slots are, also when they change while it watches. No condition.
-/
import Derived.Test.YthgbfghhiadjpaaRows
import Derived.WalkKit
import Derived.ProofKit
import Derived.OpenShut
import Derived.Test.YthgbfghhiadjpaaFrame
import Derived.Test.YthgbfghhiadjpaaEpoL
import Derived.Test.YthgbfghhiadjpaaLayO
import Derived.Test.YthgbfghhiadjpaaEpoH
import Derived.Deep.RegionLaw
import Derived.Deep.RegionHeld3
namespace Go.Proofs.Ythgbfghhiadjpaa.epochFences
open Go.ChangeShapes Go.WideShapes Go.ChangeAt Go.RowKit
open LawFrame
open Go.ChangeMaps (open_string)
set_option linter.unusedVariables false

theorem own : ownKnob Try.prog.godebug = none := by kernel_rfl
theorem laidOut : laidOutB Try.prog = true := by kernel_rfl
theorem cells3 : Try.prog.cellsOf 3 = 1 := by kernel_rfl

open PlainT BlkW LayS LayA LayH LayK LayO LayP CelS CelM CelP CelV CelN CelO CelI CelF CelB LabD LabR LabP LabS WordC EpoA EpoF EpoS EpoE EpoB EpoG EpoH
set_option maxHeartbeats 20000000
set_option maxRecDepth 100000
theorem fV_ex (n : Nat) (c : Int) (s : List Int) (f : Fst) : ∃ k1 k2 k3 k4 k5 d, fV n c s f = (k1, k2, k3, k4, k5, d) := ⟨_, _, _, _, _, _, rfl⟩
/-- The box of the pair. -/
def HP0 (gp b rb : Nat) (w : World) : Prop := Mem w gp TP #[.pointer (some ⟨b, 0, none⟩), .pointer (some ⟨rb, 0, none⟩)]
theorem HP0.lt {gp b rb : Nat} {w : World} (h : HP0 gp b rb w) : gp < w.heap.size := Mem.lt h
theorem hp0_of {gp b rb : Nat} {w : World} (h : HP0 gp b rb w) : w.cell? ⟨gp, 0, none⟩ = some (.pointer (some ⟨b, 0, none⟩)) ∧ w.cell? ⟨gp, 1, none⟩ = some (.pointer (some ⟨rb, 0, none⟩)) ∧ HP0 gp b rb w := ⟨Mem.cell h 0, Mem.cell h 1, h⟩
theorem hp0_below {gp b rb : Nat} {w w' : World} (h : HP0 gp b rb w) (k : Below w.heap.size w w') : HP0 gp b rb w' := Mem.below h k h.lt
theorem zero_four : ∀ j : Nat, 0 ≤ ([0, 0, 0, 0] : List Int).getD j 0 ∧ ([0, 0, 0, 0] : List Int).getD j 0 ≤ 8
  | 0 | 1 | 2 | 3 => by decide
  | n + 4 => by
    show 0 ≤ (0 : Int) ∧ (0 : Int) ≤ 8
    decide
/-- What the first loop carries: the slots, all of them at most 8. -/
structure PS (w0 : World) (lo hi b rb : Nat) (q : Cfg) (c : Int) (gp : Nat) (s : List Int) (w : World) : Prop where
  duo : ∃ A, Duo lo hi w b rb q A A ∧ A 3 = [c] ∧ A 6 = s
  pa : HP0 gp b rb w
  old : Below w0.heap.size w0 w
  len : s.length = 4
  le : ∀ j, 0 ≤ s.getD j 0 ∧ s.getD j 0 ≤ 8
theorem PS.drewN {w0 w : World} {lo hi b rb gp : Nat} {q : Cfg} {c : Int} {s : List Int} (h : PS w0 lo hi b rb q c gp s w) (n : Nat) : PS w0 lo hi b rb q c gp s (w.drewN n) := by
  obtain ⟨A, hd, h3, h6⟩ := h.duo
  exact ⟨⟨A, hd.drewN n, h3, h6⟩, Mem.drewN h.pa n, below_drewN h.old n, h.len, h.le⟩
theorem ps_set {w0 w : World} {lo hi b rb gp : Nat} {q : Cfg} {c : Int} {s : List Int} (hlo : w0.heap.size ≤ lo) (hgp : hi ≤ gp) (h : PS w0 lo hi b rb q c gp s w) (j : Nat) (hj : j < 4) (v : Int) (v0 : 0 ≤ v) (v1 : v ≤ 8) :
    Calls Try.prog 35 #[pairV b rb, .int .i64 6, .int .i64 j, .int .u64 v] w fun e w' => e = .returned (.bool true) ∧ PS w0 lo hi b rb q c gp (s.set j v) w' := by
  obtain ⟨A, hD, h3, h6⟩ := h.duo
  have hl := h.len
  refine (p_set hD 6 (by decide) j (by rw [h6, hl]; exact hj) (by rw [h6, hl]; exact hj) _ rfl rfl v).mono ?_
  rintro e w' ⟨he, hD', hS⟩
  refine ⟨he, ⟨_, hD', by rw [upd_ne (by decide), h3], by simp [upd, h6]⟩, Mem.of_eq h.pa (hS.block gp h.pa.lt (.inr hgp)), h.old.trans (hS.below hlo h.old.size), by simpa using hl, fun i => ?_⟩
  by_cases hij : i = j
  · subst hij
    rw [List.getD_eq_getElem?_getD, List.getElem?_set_self (by omega)]
    exact ⟨v0, v1⟩
  · rw [List.getD_eq_getElem?_getD, List.getElem?_set_ne (Ne.symm hij), ← List.getD_eq_getElem?_getD]
    exact h.le i

theorem readable : ∀ t ∈ Try.f11.params.toList, Try.prog.readableRec t = true ∧ t < Try.prog.types.size := by
  have h : (Try.f11.params.toList.all fun t => Try.prog.readableRec t && decide (t < Try.prog.types.size)) = true := by kernel_rfl
  intro t ht
  have := List.all_eq_true.1 h t ht
  simpa using this

/-! The walk. -/
theorem walk (w : World) (x0_0 x0_1 x0_2 x0_3 x0_4 : Int) (wx0_0 : LayS.InI x0_0) (wx0_1 : LayS.InI x0_1) (wx0_2 : LayS.InI x0_2) (wx0_3 : LayS.InI x0_3) (wx0_4 : LayS.InI x0_4) (a1 : Int) (w1 : (Lit.int .i64 a1).wf = true) (a2 : Int) (w2 : (Lit.int .i64 a2).wf = true) (a3 : Int) (w3 : (Lit.int .u64 a3).wf = true) (A4 : Option Addr) (n4 c4 : Nat) (z4 : List Int) (l4 : n4 ≤ c4) (m4 : c4 ≤ maxLen) (s4 : Ints .i64 w A4 n4 z4) (A5 : Option Addr) (n5 c5 : Nat) (z5 : List Int) (l5 : n5 ≤ c5) (m5 : c5 ≤ maxLen) (s5 : Ints .i64 w A5 n5 z5) :
    Calls Try.prog 11 #[.agg #[.int .i64 x0_0, .int .i64 x0_1, .int .i64 x0_2, .int .i64 x0_3, .int .i64 x0_4], .int .i64 a1, .int .i64 a2, .int .u64 a3, .slice A4 n4 c4, .slice A5 n5 c5] w fun e w' => e = .returned (.bool true) ∧ Kept w w' := by
  show Calls _ _ #[.agg _, _, _, _, _, _] _ _
  clear wx0_0 wx0_1 wx0_2 wx0_3 wx0_4
  have hb3 := bounds_u64 w3
  clear w1 w2 w3
  have HB0 := Lib.hid (below_new w (.cells #[.int .i64 x0_0, .int .i64 x0_1, .int .i64 x0_2, .int .i64 x0_3, .int .i64 x0_4] 22))
  have HZ4 := Lib.hid s4
  have HZ5 := Lib.hid s5
  clear s4 s5
  go_enter Try.func11, Try.ntmps11
  go_upto_region 2 with (go_at_call 34; refine (l_small _ _ _ _ _ _).mono ?_; rintro e w1 ⟨q, A0', lo, hi, b, rb, rfl, hst⟩)
  obtain ⟨w0, hw0⟩ : ∃ w0, w.alloc (.cells #[.int .i64 x0_0, .int .i64 x0_1, .int .i64 x0_2, .int .i64 x0_3, .int .i64 x0_4] 22) = w0 := ⟨_, rfl⟩
  rw [hw0] at HB0 hst
  clear hw0
  obtain ⟨_, ⟨n', no, _, _, hA0⟩, hd, hlo, hbo⟩ := hst
  have hA3 : A0' 3 = [0] := by rw [hA0]; rfl
  have hA6 : A0' 6 = [0, 0, 0, 0] := by rw [hA0]; rfl
  clear hA0
  have HD := Lib.hid (hd.alloc (.cells #[.pointer (some ⟨b, 0, none⟩), .pointer (some ⟨rb, 0, none⟩)] TP))
  have HBO := Lib.hid (hbo.alloc hbo.size (.cells #[.pointer (some ⟨b, 0, none⟩), .pointer (some ⟨rb, 0, none⟩)] TP))
  have HP := Lib.hid (Mem.new w1 TP #[.pointer (some ⟨b, 0, none⟩), .pointer (some ⟨rb, 0, none⟩)])
  have hgt := hd.top
  have hle := duo_le hd
  obtain ⟨gp, hgp⟩ : ∃ gp, w1.heap.size = gp := ⟨_, rfl⟩
  rw [hgp] at HP hgt
  first | rw [hgp] | skip
  obtain ⟨W1, hW1⟩ : ∃ W1, w1.alloc (.cells #[.pointer (some ⟨b, 0, none⟩), .pointer (some ⟨rb, 0, none⟩)] TP) = W1 := ⟨_, rfl⟩
  rw [hW1] at HD HBO HP
  first | rw [hW1] | skip
  clear hW1 hgp hd hbo
  have c0 := HP.out.cell 0
  have c1 := HP.out.cell 1
  simp at c0 c1
  go_upto_region 3 with (go_at_call 16; refine (k_place_ex _ _ (by omega) (by omega) _).mono ?_; rintro e w2 ⟨p, p0, p1, rfl, rfl⟩)
  obtain ⟨m, hm⟩ : ∃ m : Nat, 1 + p = m := ⟨(1 + p).toNat, by omega⟩
  rw [hm]
  have hm1 : 1 ≤ m := by omega
  have hm4 : m ≤ 4 := by omega
  clear hm p0 p1
  go_upto_region 4 with (go_at_call 16; refine (k_place_ex _ _ (by omega) (by omega) _).mono ?_; rintro e w2 ⟨p', p0, p1, rfl, rfl⟩)
  obtain ⟨t, ht⟩ : ∃ t : Nat, p' = t := ⟨p'.toNat, by omega⟩
  subst ht
  clear p0 p1
  go_upto_region 5 with (fail)
  obtain ⟨c, hc⟩ : ∃ c, a3 % 6 = c := ⟨_, rfl⟩
  rw [hc]
  have h0 : 0 ≤ c := by omega
  have h1 : c ≤ 5 := by omega
  clear hc hb3
  by_cases hbig : (30 : Int) < n5
  · go_wp2_with (fail)
    refine (EpoL.l_awake _).mono ?_
    rintro e w3 ⟨rfl, hb1⟩
    have HB1 := Lib.hid (below_trans2 HB0.out (below_trans2 HBO.out hb1))
    clear hb1
    go_wp2
    go_ret
    exact ⟨rfl, .of_below HB1.out⟩
  · have hn30 : (n5 : Int) ≤ 30 := by omega
    clear hbig
    have hset := p_set HD.out 3 (by decide) 0 (by rw [hA3]; exact Nat.zero_lt_one) (by rw [hA3]; exact Nat.zero_lt_one) 0 (by rw [hA3]; rfl) (by rw [hA3]; rfl) c
    go_upto_region 7 with (go_at_call 35; refine hset.mono ?_; rintro e w3 ⟨rfl, hD3, hS3⟩)
    have HPS : Hid (PS w0 lo hi b rb q c gp [0, 0, 0, 0] w3) := Lib.hid ⟨⟨_, hD3, by simp [upd, hA3], by rw [upd_ne (by decide), hA6]⟩, Mem.of_eq HP.out (hS3.block gp HP.out.lt (.inr hgt)), HBO.out.trans (hS3.below hlo HBO.out.size), rfl, zero_four⟩
    clear hset hD3 hS3 HD HBO HP c0 c1 hA3 hA6
    go_wp2_with fail
    go_loopw [18] (fun iv wr => ∃ (i : Nat) (s : List Int), i ≤ 4 ∧ iv = .int .i64 i ∧ PS w0 lo hi b rb q c gp s wr) (fun iv _ => 4 - (intOf iv).toNat)
    case atStart => exact ⟨0, _, by omega, rfl, HPS.out⟩
    case round =>
      clear HPS
      obtain ⟨i, s, hi4, rfl, hps⟩ := hrel
      by_cases hlt : i < 4
      · have hltI : (i : Int) < 4 := by omega
        have HPS := Lib.hid (hps.drewN 1)
        have hs0 : HP0 gp b rb wr.drew := HPS.out.pa
        have hat : Calls Try.prog 47 #[.slice A4 n4 c4, .int .i64 i] wr.drew fun e w' => ∃ v, e = .returned (.int .i64 v) ∧ wr.drew = w' := k_at c4 HZ4.out (below_trans2 HB0.out HPS.out.old) i
        have hpl : ∀ a, Calls Try.prog 16 #[.int .i64 a, .int .i64 9] wr.drew fun e w' => ∃ v, 0 ≤ v ∧ v ≤ 8 ∧ e = .returned (.int .i64 v) ∧ wr.drew = w' := fun a => k_place_ex a 9 (by omega) (by omega) _
        have hse : ∀ v, 0 ≤ v → v ≤ 8 → Calls Try.prog 35 #[pairV b rb, .int .i64 6, .int .i64 i, .int .u64 v] wr.drew fun e w' => e = .returned (.bool true) ∧ PS w0 lo hi b rb q c gp (s.set i v) w' := fun v v0 v1 => ps_set hlo hgt HPS.out i hlt v v0 v1
        clear hps
        go_wp2_with fail
        go_region_held3 (fun W => W.cell? ⟨gp, 0, none⟩ = some (.pointer (some ⟨b, 0, none⟩)) ∧ W.cell? ⟨gp, 1, none⟩ = some (.pointer (some ⟨rb, 0, none⟩)) ∧ HP0 gp b rb W) (first | exact hp0_of hs0 | exact hp0_of (by assumption) | assumption) (first
          | (go_at_call 47; (with_reducible refine hat.mono ?_); rintro e w5 ⟨v, rfl, rfl⟩)
          | (go_at_call 16; (with_reducible refine (hpl _).mono ?_); rintro e w6 ⟨u, u0, u1, rfl, rfl⟩; have hwu : IntKind.u64.wrap u = u := IntWalk.u64_in u (by omega))
          | (go_at_call 35; (with_reducible refine (hse u u0 u1).mono ?_); rintro e w7 ⟨rfl, hP7⟩; have hq7 := hP7.pa))
        go_wp2_with fail
        go_roundw
        case rel => exact ⟨i + 1, _, by omega, by go_num, hP7⟩
        case measure => simp [intOf]; omega
      · obtain rfl : i = 4 := by omega
        clear hlt hi4
        obtain ⟨⟨A, hd, hA3, hA6⟩, hpa, hold, hlen, hsle⟩ := hps
        go_upto_region 13 with (first
          | (go_at_call 48; refine (f_new _ _ _).mono ?_; rintro e w4 ⟨rfl, rfl⟩)
          | (go_at_call 49; refine (g_new _ _ _).mono ?_; rintro e w5 ⟨rfl, rfl⟩))
        have HD3 := Lib.hid ((hd.alloc (.cells #[.int .i64 0, .int .i64 t, .int .i64 m, .int .i64 0, .int .i64 (-1)] 129)).alloc (.cells #[.int .i64 t, .int .i64 m, .int .i64 (-1), .int .i64 0] 91))
        have HBO3 := Lib.hid ((hold.alloc hold.size (.cells #[.int .i64 0, .int .i64 t, .int .i64 m, .int .i64 0, .int .i64 (-1)] 129)).alloc (by rw [size_new]; have := hold.size; omega) (.cells #[.int .i64 t, .int .i64 m, .int .i64 (-1), .int .i64 0] 91))
        have HP3 := Lib.hid ((Mem.alloc hpa (.cells #[.int .i64 0, .int .i64 t, .int .i64 m, .int .i64 0, .int .i64 (-1)] 129)).alloc (.cells #[.int .i64 t, .int .i64 m, .int .i64 (-1), .int .i64 0] 91))
        have HA3 := Lib.hid (Mem.alloc (Mem.new wr 129 #[.int .i64 0, .int .i64 t, .int .i64 m, .int .i64 0, .int .i64 (-1)]) (.cells #[.int .i64 t, .int .i64 m, .int .i64 (-1), .int .i64 0] 91))
        have HB3 := Lib.hid (mem_new1 wr (.cells #[.int .i64 0, .int .i64 t, .int .i64 m, .int .i64 0, .int .i64 (-1)] 129) 91 #[.int .i64 t, .int .i64 m, .int .i64 (-1), .int .i64 0])
        have hg3 : gp < wr.heap.size := hpa.lt
        obtain ⟨ga, hga⟩ : ∃ ga, wr.heap.size = ga := ⟨_, rfl⟩
        rw [hga] at HA3 HB3 hg3
        first | rw [hga] | skip
        obtain ⟨W4, hW4⟩ : ∃ W4, (wr.alloc (.cells #[.int .i64 0, .int .i64 t, .int .i64 m, .int .i64 0, .int .i64 (-1)] 129)).alloc (.cells #[.int .i64 t, .int .i64 m, .int .i64 (-1), .int .i64 0] 91) = W4 := ⟨_, rfl⟩
        rw [hW4] at HD3 HBO3 HP3 HA3 HB3
        first | rw [hW4] | skip
        have HFS : Hid (FS w0 lo hi b rb q m t c s gp ga (ga + 1) none none W4) := Lib.hid ⟨⟨A, HD3.out, hA3, hA6⟩, HP3.out, HA3.out, HB3.out, HBO3.out, ⟨hlo, hle, hgt, hg3, Nat.lt_succ_self _⟩, ⟨hm4, h0, by omega, hlen, fun j => by have := hsle j; omega⟩, trivial, trivial⟩
        clear HD3 HBO3 HP3 HA3 HB3 hW4 hga hA3 hA6 hd hpa hold hlen hsle hlo hle hgt hg3 h0 h1 hm1
        go_wp2_with fail
        go_loopw [21] (fun iv wr => ∃ (i : Nat) (f : Fst) (s : List Int), i ≤ n5 ∧ iv = .int .i64 i ∧ FS w0 lo hi b rb q m t c s gp ga (ga + 1) f f wr) (fun iv _ => n5 - (intOf iv).toNat)
        case atStart => exact ⟨0, none, s, by omega, rfl, HFS.out⟩
        case round =>
          clear HFS
          obtain ⟨i, f, s, hi5, rfl, hes⟩ := hrel
          by_cases hlt : i < n5
          · have hltI : (i : Int) < n5 := by omega
            obtain ⟨k1, k2, k3, k4, k5, d, hv⟩ := fV_ex m c s f
            have HV := Lib.hid hv
            have HE := Lib.hid hes.drew
            have q0 := HE.out.p0
            have q1 := HE.out.p1
            have q2 := HE.out.rv
            obtain ⟨D, hD⟩ : ∃ D, (fS m f == 2) = D := ⟨_, rfl⟩
            obtain ⟨N, hN⟩ : ∃ N, fL c f = N := ⟨_, rfl⟩
            have hda := fa_done HE.out
            have hdb := fb_done HE.out
            rw [hD] at hda hdb
            rw [hN] at q2
            clear hv hes hD
            go_wp2_with fail
            first | go_region_law (first
              | (go_simp; go_at_call 50; (with_reducible refine hda.mono ?_); rintro e w5 ⟨rfl, rfl⟩)
              | (go_simp; go_at_call 51; (with_reducible refine hdb.mono ?_); rintro e w5 ⟨rfl, hE5⟩; have q0 := hE5.p0; have q1 := hE5.p1; have q2 := hE5.rv; have hsn := fa_limit hE5; rw [hN] at hsn q2)
              | (go_simp; go_at_call 52; (with_reducible refine hsn.mono ?_); rintro e w5 ⟨rfl, rfl⟩)
              | (go_simp; go_at_call 53; (with_reducible refine (fa_step hE5 HV).mono ?_); rintro e w6 ⟨rfl, hE6⟩; have q3 := hE6.p0; have q4 := hE6.p1)
              | (go_simp; go_at_call 54; (with_reducible refine (fb_step hE6 HV).mono ?_); rintro e w7 ⟨rfl, hE7⟩; have q5 := hE7.p0; have q6 := hE7.p1)
              | (go_simp; go_at_call 43; (with_reducible refine (fab_same hE7).mono ?_); rintro e w8 ⟨rfl, hE8⟩)) | fail
            all_goals
              have HE8 := Lib.hid hE8
              clear hE8
              obtain ⟨tb, toff, tx, rfl, _, htc⟩ := iat HZ5.out (below_trans2 HB0.out HE8.out.old) hlt
              have r0 := HE8.out.p0
              have r1 := HE8.out.p1
              go_upto_region 21 with (go_at_call 16; refine (k_place_ex _ _ (by omega) (by omega) _).mono ?_; rintro e w9 ⟨u, u0, u1, rfl, rfl⟩)
              by_cases hu : u < 36
              · obtain ⟨j, hj⟩ : ∃ j : Nat, u / 9 = j := ⟨(u / 9).toNat, by omega⟩
                obtain ⟨y, hy⟩ : ∃ y, u % 9 = y := ⟨_, rfl⟩
                have hj' : u.tdiv 9 = j := by rw [Int.tdiv_eq_ediv_of_nonneg u0]; exact hj
                have hy' : u.tmod 9 = y := by rw [Int.tmod_eq_emod_of_nonneg u0]; exact hy
                have y0 : 0 ≤ y := by omega
                have y1 : y ≤ 8 := by omega
                have hwy : IntKind.u64.wrap y = y := IntWalk.u64_in y (by omega)
                have hset := fab_set HE8.out j (by omega) y y0 y1
                clear htc
                go_wp2_with (go_at_call 35; refine hset.mono ?_; rintro e w10 ⟨rfl, hE10⟩)
                go_roundw
                case rel => exact ⟨i + 1, _, _, by omega, by go_num, hE10⟩
                case measure => simp [intOf]; omega
              · have hu2 : 36 ≤ u := by omega
                clear hu htc
                go_wp2_with fail
                go_roundw
                case rel => exact ⟨i + 1, _, _, by omega, by go_num, HE8.out⟩
                case measure => simp [intOf]; omega
          · obtain rfl : i = n5 := by omega
            have HE := Lib.hid hes
            obtain ⟨D, hD⟩ : ∃ D, (fS m f == 2) = D := ⟨_, rfl⟩
            have hda := fa_done HE.out
            have hdb := fb_done HE.out
            rw [hD] at hda hdb
            clear hes hlt hi5 hD
            go_wp2_with (first
              | (go_at_call 50; refine hda.mono ?_; rintro e w5 ⟨rfl, rfl⟩)
              | (go_at_call 51; refine hdb.mono ?_; rintro e w6 ⟨rfl, hE6⟩)
              | (go_at_call 46; refine (EpoL.l_awake _).mono ?_; rintro e w7 ⟨rfl, hb7⟩))
            have HBF := Lib.hid (below_trans2 HB0.out (below_trans2 hE6.old hb7))
            clear hb7
            go_ret
            exact ⟨rfl, .of_below HBF.out⟩

/-! The row's step. -/
set_option maxRecDepth 100000 in
theorem lifted (os : Os) (started : os.Started) (H : Type) (enc : TypeId × Value → H) :
    ReturnsInHanded {} Try.checked os 11 .any (Rows.epochFencesSpec.pre6 enc Try.prog Try.f11 Rows.epochFencesRow.domain false) (Rows.epochFencesSpec.post enc Try.prog Try.f11 false true false false) := by
  refine returnsInHanded_of_change (C := Try.checked) own started (by kernel_rfl) Try.func11
    (ChangeSpec.witness6 (enc := enc) (C := Try.checked) false ⟨#[], #[.agg #[.int .i64 0, .int .i64 0, .int .i64 0, .int .i64 0, .int .i64 0], .int .i64 0, .int .i64 0, .int .u64 0, .slice none 0 0, .slice none 0 0], []⟩ 8 (by kernel_rfl) (by kernel_rfl) (by kernel_rfl) (by kernel_rfl)) ?_
  intro W base args ds gs before hval0 hW hcnd _
  have hval : ∀ (j : Nat) t v, Try.f11.params[j]? = some t → args[j]? = some v → Value.okWide Try.prog W .any base t v := hval0
  have hW' := hW
  obtain ⟨p, q, hA0, hV, rfl, hfz, hnd⟩ := hW
  have hA : DataW.TrodAll enc Try.prog W 0 (fun _ => true) true Try.f11.params.toList args.toList ds p := hA0
  rw [Try.params11] at hA hval
  obtain ⟨v0, vs0, d0, ds0, p0, q0, hargs, rfl, rfl, h0, r0⟩ := trodAll_cons hA
  obtain ⟨v1, vs1, d1, ds1, p1, q1, rfl, rfl, rfl, h1, r1⟩ := trodAll_cons r0
  obtain ⟨v2, vs2, d2, ds2, p2, q2, rfl, rfl, rfl, h2, r2⟩ := trodAll_cons r1
  obtain ⟨v3, vs3, d3, ds3, p3, q3, rfl, rfl, rfl, h3, r3⟩ := trodAll_cons r2
  obtain ⟨v4, vs4, d4, ds4, p4, q4, rfl, rfl, rfl, h4, r4⟩ := trodAll_cons r3
  obtain ⟨v5, vs5, d5, ds5, p5, q5, rfl, rfl, rfl, h5, r5⟩ := trodAll_cons r4
  obtain ⟨rfl, rfl, rfl⟩ := trodAll_nil r5
  obtain rfl : args = #[v0, v1, v2, v3, v4, v5] := by cases args; simp_all
  obtain ⟨rfl, rfl⟩ := trodVars_none hV
  have hk : ∀ W', Kept W W' → Rows.epochFencesSpec.post enc Try.prog Try.f11 false true false false W #[v0, v1, v2, v3, v4, v5] (.bool true) W' := fun W' hb =>
    post_law laidOut readable rfl Try.underlying4 rfl hW' rfl hb
  clear hA0 hval0 hA hW'
  obtain ⟨x0_0, x0_1, x0_2, x0_3, x0_4, rfl, wx0_0, wx0_1, wx0_2, wx0_3, wx0_4⟩ := LayO.open_arr5 (hval 0 22 v0 rfl rfl) h0
  obtain ⟨a1, rfl, rfl, rfl, w1⟩ := open_int Try.underlying3 (hval 1 3 v1 rfl rfl) h1
  obtain ⟨a2, rfl, rfl, rfl, w2⟩ := open_int Try.underlying3 (hval 2 3 v2 rfl rfl) h2
  obtain ⟨a3, rfl, rfl, rfl, w3⟩ := open_int Try.underlying29 (hval 3 29 v3 rfl rfl) h3
  obtain ⟨A4, n4, c4, z4, rfl, l4, m4, s4⟩ := open_slice Try.underlying84 Try.underlying3 cells3 (hval 4 84 v4 rfl rfl) h4
  obtain ⟨A5, n5, c5, z5, rfl, l5, m5, s5⟩ := open_slice Try.underlying84 Try.underlying3 cells3 (hval 5 84 v5 rfl rfl) h5
  refine (walk W x0_0 x0_1 x0_2 x0_3 x0_4 wx0_0 wx0_1 wx0_2 wx0_3 wx0_4 a1 w1 a2 w2 a3 w3 A4 n4 c4 z4 l4 m4 s4 A5 n5 c5 z5 l5 m5 s5).mono fun e W' ⟨he, hg⟩ => ?_
  subst he
  exact ⟨_, rfl, hk W' hg⟩

theorem over : Rows.epochFencesRow.holds Try.pinned (OpenSpec.ofChange Rows.epochFencesSpec) :=
  OpenClaim.holds_of_wide 11 Try.f11 rfl rfl rfl rfl rfl rfl rfl ⟨rfl, rfl, rfl, rfl, rfl⟩ rfl rfl rfl rfl rfl (by kernel_rfl) Try.func11 (by kernel_rfl)
    (of_decide_eq_true (by kernel_rfl)) (by unfold Func.isWrapper; first | (rw [if_pos (by decide +kernel)]; kernel_rfl) | (rw [if_neg (by decide +kernel)]; exact ⟨rfl, rfl⟩))
    (fun os started H enc _ => lifted os started H enc)

/-- The statement. -/
theorem proved : Rows.EpochFencesSaid :=
  over
#print axioms proved
end Go.Proofs.Ythgbfghhiadjpaa.epochFences
