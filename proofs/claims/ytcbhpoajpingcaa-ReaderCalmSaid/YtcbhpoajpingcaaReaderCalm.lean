/-
  Proved: an undisturbed read returns the word after three loads if the orec is free and not newer than the snapshot, and otherwise a conflict after one. No condition.
-/
import Derived.Test.YtcbhpoajpingcaaRows
import Derived.WalkKit
import Derived.ProofKit
import Derived.OpenShut
import Derived.Test.YtcbhpoajpingcaaFrame
import Derived.Test.YtcbhpoajpingcaaRdL
import Derived.Test.YtcbhpoajpingcaaLayO
import Derived.Deep.RegionLaw
import Derived.Deep.RegionHeld3
namespace Go.Proofs.Ytcbhpoajpingcaa.readerCalm
open Go.ChangeShapes Go.WideShapes Go.ChangeAt Go.RowKit
open LawFrame
open Go.ChangeMaps (open_string)
set_option linter.unusedVariables false

theorem own : ownKnob Try.prog.godebug = none := by kernel_rfl
theorem laidOut : laidOutB Try.prog = true := by kernel_rfl

open PlainT BlkW LayS LayA LayH LayK LayO LayP CelS CelM CelP CelV CelN CelO CelI CelF CelB LabD LabR LabP LabS LabX WordC RdA RdB RdC RdL
set_option maxHeartbeats 20000000
set_option maxRecDepth 100000
/-- The machine behind i steps: C says whether it conflicts. -/
def Cs (C : Prop) (x y : Int) (i : Nat) (t bf vl : Int) : Prop := (t = i ∧ i ≤ 3 ∧ (1 ≤ i → ¬ C ∧ bf = x) ∧ (2 ≤ i → vl = y)) ∨ (C ∧ i = 1 ∧ t = 4)
theorem cs_0 (C : Prop) (x y : Int) : Cs C x y 0 0 0 0 := .inl ⟨rfl, by decide, fun h => absurd h (by decide), fun h => absurd h (by decide)⟩
section
variable {C : Prop} {x y : Int} {i : Nat} {t bf vl r : Int}
theorem cs_le (h : Cs C x y i t bf vl) : i ≤ 3 := by
  rcases h with ⟨_, h, _⟩ | ⟨_, h, _⟩ <;> omega
theorem cs_in (h : Cs C x y i t bf vl) : 0 ≤ t ∧ t ≤ 4 := by
  rcases h with ⟨h, h', _⟩ | ⟨_, _, h⟩ <;> omega
theorem cs_end (h : Cs C x y i t bf vl) (h3 : 3 ≤ t) : (C ∧ i = 1 ∧ t = 4) ∨ (¬ C ∧ i = 3 ∧ t = 3 ∧ vl = y) := by
  rcases h with ⟨h1, h2, h4, h5⟩ | h
  · have e : i = 3 := by omega
    subst e
    exact .inr ⟨(h4 (by decide)).1, rfl, h1, h5 (by decide)⟩
  · exact .inl h
theorem cs_step (hc : C ↔ (0 ≤ x % 64 - 1 ∨ r < x / 64)) (h3 : ¬ 3 ≤ t) (h : Cs C x y i t bf vl) : Cs C x y (i + 1) (nAt r x t bf) (nBf x t bf) (nVl y t vl) := by
  rcases h with ⟨rfl, h2, h4, h5⟩ | ⟨_, _, rfl⟩
  · have : i = 0 ∨ i = 1 ∨ i = 2 := by omega
    rcases this with rfl | rfl | rfl
    · by_cases hC : C
      · exact .inr ⟨hC, rfl, (nAt_0 r x bf).trans (if_pos (hc.1 hC))⟩
      · exact .inl ⟨(nAt_0 r x bf).trans (if_neg (fun k => hC (hc.2 k))), by decide, fun _ => ⟨hC, rfl⟩, fun h => absurd h (by decide)⟩
    · have hb := h4 (by decide)
      exact .inl ⟨rfl, by decide, fun _ => hb, fun _ => rfl⟩
    · have hb := h4 (by decide)
      exact .inl ⟨(nAt_2 r x bf).trans (if_pos hb.2.symm), by decide, fun _ => hb, fun _ => h5 (by decide)⟩
  · exact absurd (by decide) h3
end

theorem readable : ∀ t ∈ Try.f10.params.toList, Try.prog.readableRec t = true ∧ t < Try.prog.types.size := by
  have h : (Try.f10.params.toList.all fun t => Try.prog.readableRec t && decide (t < Try.prog.types.size)) = true := by kernel_rfl
  intro t ht
  have := List.all_eq_true.1 h t ht
  simpa using this

/-! The walk. -/
theorem walk (w : World) (x0_0 x0_1 x0_2 x0_3 x0_4 : Int) (wx0_0 : LayS.InI x0_0) (wx0_1 : LayS.InI x0_1) (wx0_2 : LayS.InI x0_2) (wx0_3 : LayS.InI x0_3) (wx0_4 : LayS.InI x0_4) (a1 : Int) (w1 : (Lit.int .i64 a1).wf = true) (a2 : Int) (w2 : (Lit.int .u64 a2).wf = true) (a3 : Int) (w3 : (Lit.int .i64 a3).wf = true) (a4 : Int) (w4 : (Lit.int .i64 a4).wf = true) (a5 : Int) (w5 : (Lit.int .i64 a5).wf = true) (a6 : Bool) :
    Calls Try.prog 10 #[.agg #[.int .i64 x0_0, .int .i64 x0_1, .int .i64 x0_2, .int .i64 x0_3, .int .i64 x0_4], .int .i64 a1, .int .u64 a2, .int .i64 a3, .int .i64 a4, .int .i64 a5, .bool a6] w fun e w' => e = .returned (.bool true) ∧ Kept w w' := by
  show Calls _ _ #[.agg _, _, _, _, _, _, _] _ _
  clear wx0_0 wx0_1 wx0_2 wx0_3 wx0_4
  have HB0 := Lib.hid (below_new w (.cells #[.int .i64 x0_0, .int .i64 x0_1, .int .i64 x0_2, .int .i64 x0_3, .int .i64 x0_4] 22))
  have hv2 := bounds_u64 w2
  clear w1 w2 w3 w4 w5
  go_enter Try.func10, Try.ntmps10
  go_upto_region 2 with (go_at_call 20; refine (l_small _ _ _ _ _ _).mono ?_; rintro e w1 ⟨q, A, lo, hi, b, rb, rfl, hst⟩)
  obtain ⟨w0, hw0⟩ : ∃ w0, w.alloc (.cells #[.int .i64 x0_0, .int .i64 x0_1, .int .i64 x0_2, .int .i64 x0_3, .int .i64 x0_4] 22) = w0 := ⟨_, rfl⟩
  rw [hw0] at HB0 hst
  clear hw0
  have L0 := Lib.hid (Lb.begun hst)
  obtain ⟨hmd, l1, l1', l2, z2⟩ := begun_len hst
  have hq : 4 ≤ q.w ∧ q.w ≤ 12 ∧ 1 ≤ q.o ∧ q.o ≤ 8 := by unfold Made at hmd; omega
  obtain ⟨qw0, qw1, qo0, qo1⟩ := hq
  have Z2 := Lib.hid z2
  have HL := Lib.hid (And.intro l1 (And.intro l1' l2))
  clear hst hmd z2 l1 l1' l2
  have L1 := Lib.hid (L0.out.new TP #[.pointer (some ⟨b, 0, none⟩), .pointer (some ⟨rb, 0, none⟩)])
  simp only [List.nil_append] at L1
  have Z_gp : Hid ((w1.alloc (.cells #[.pointer (some ⟨b, 0, none⟩), .pointer (some ⟨rb, 0, none⟩)] TP)).heap.size = w1.heap.size + 1) := Lib.hid (size_new _ _)
  obtain ⟨gp, hn⟩ : ∃ gp, w1.heap.size = gp := ⟨_, rfl⟩
  rw [hn] at L1 Z_gp
  first | rw [hn] | skip
  clear hn
  obtain ⟨W1, hW⟩ : ∃ W', w1.alloc (.cells #[.pointer (some ⟨b, 0, none⟩), .pointer (some ⟨rb, 0, none⟩)] TP) = W' := ⟨_, rfl⟩
  rw [hW] at L1 Z_gp
  first | rw [hW] | skip
  clear hW
  clear L0
  clear Z_gp
  have c1_gp_0 : W1.cell? ⟨gp, 0, none⟩ = some (.pointer (some ⟨b, 0, none⟩)) := L1.out.c 0 0 rfl rfl
  have c1_gp_1 : W1.cell? ⟨gp, 1, none⟩ = some (.pointer (some ⟨rb, 0, none⟩)) := L1.out.c 0 1 rfl rfl
  have d0 := L1.out.cfg 0 (by decide)
  have d1 := L1.out.cfg 1 (by decide)
  have d2 := L1.out.cfg 2 (by decide)
  have d3 := L1.out.cfg 3 (by decide)
  have d4 := L1.out.cfg 4 (by decide)
  have d5 := L1.out.cfg 5 (by decide)
  have d6 := L1.out.cfg 6 (by decide)
  have d7 := L1.out.cfg 7 (by decide)
  have d8 := L1.out.cfg 8 (by decide)
  have d9 := L1.out.cfg 9 (by decide)
  have d10 := L1.out.cfg 10 (by decide)
  have d11 := L1.out.cfg 11 (by decide)
  have d12 := L1.out.cfg 12 (by decide)
  simp [cells] at d0 d1 d2 d3 d4 d5 d6 d7 d8 d9 d10 d11 d12
  go_upto_region 5 with (fail)
  have L2 := Lib.hid (L1.out.new TC #[.int .i64 q.w, .int .i64 q.o, .int .i64 q.b, .int .i64 q.c0, .int .i64 q.c1, .int .i64 q.c2, .int .i64 q.c3, .int .i64 q.r, .int .i64 q.t, .int .i64 q.a, .int .i64 q.f, .int .i64 q.k, .bool q.s])
  simp only [List.cons_append, List.nil_append] at L2
  have Z_gc : Hid ((W1.alloc (.cells #[.int .i64 q.w, .int .i64 q.o, .int .i64 q.b, .int .i64 q.c0, .int .i64 q.c1, .int .i64 q.c2, .int .i64 q.c3, .int .i64 q.r, .int .i64 q.t, .int .i64 q.a, .int .i64 q.f, .int .i64 q.k, .bool q.s] TC)).heap.size = W1.heap.size + 1) := Lib.hid (size_new _ _)
  obtain ⟨gc, hn⟩ : ∃ gc, W1.heap.size = gc := ⟨_, rfl⟩
  rw [hn] at L2 Z_gc
  first | rw [hn] | skip
  clear hn
  obtain ⟨W2, hW⟩ : ∃ W', W1.alloc (.cells #[.int .i64 q.w, .int .i64 q.o, .int .i64 q.b, .int .i64 q.c0, .int .i64 q.c1, .int .i64 q.c2, .int .i64 q.c3, .int .i64 q.r, .int .i64 q.t, .int .i64 q.a, .int .i64 q.f, .int .i64 q.k, .bool q.s] TC) = W' := ⟨_, rfl⟩
  rw [hW] at L2 Z_gc
  first | rw [hW] | skip
  clear hW
  clear L1 c1_gp_0 c1_gp_1 d0 d1 d2 d3 d4 d5 d6 d7 d8 d9 d10 d11 d12
  clear Z_gc
  have c2_gc_0 : W2.cell? ⟨gc, 0, none⟩ = some (.int .i64 q.w) := L2.out.c 1 0 rfl rfl
  have c2_gc_1 : W2.cell? ⟨gc, 1, none⟩ = some (.int .i64 q.o) := L2.out.c 1 1 rfl rfl
  go_upto_region 6 with (first
    | (go_at_call 14; (with_reducible refine (k_place_ex a1 _ (by omega) (by omega) _).mono ?_); rintro e w2 ⟨a0, p0, p1, rfl, rfl⟩)
    | (go_at_call 14; (with_reducible refine (k_place_ex a3 _ (by omega) (by omega) _).mono ?_); rintro e w3 ⟨n, n0, n1, rfl, rfl⟩)
    | (go_at_call 14; (with_reducible refine (k_place_ex a5 _ (by omega) (by omega) _).mono ?_); rintro e w4 ⟨r, r0, r1, rfl, rfl⟩))
  obtain ⟨a, ha⟩ : ∃ a : Nat, a0 = a := ⟨(a0).toNat, by omega⟩
  subst ha
  obtain ⟨o, ho1, ho2, hA2, hA1⟩ : ∃ o : Nat, (a : Int) % q.o = (o : Int) ∧ (a : Int).tmod q.o = (o : Int) ∧ o < (A 2).length ∧ a < (A 1).length := by
    obtain ⟨l1, l1', l2⟩ := HL.out
    have e0 := Int.emod_nonneg (a : Int) (b := q.o) (by omega)
    have e1 := Int.emod_lt_of_pos (a : Int) (b := q.o) (by omega)
    have e2 : (a : Int).tmod q.o = (a : Int) % q.o := Int.tmod_eq_emod_of_nonneg (by omega)
    exact ⟨((a : Int) % q.o).toNat, by omega, by omega, by omega, by omega⟩
  have hno0 : q.o ≠ 0 := by omega
  go_upto_region 7 with (go_at_call 62; refine (r_free _ (by omega) (by omega) _).mono ?_; rintro e w5 ⟨rfl, rfl⟩)
  obtain ⟨y, hyv⟩ : ∃ y, a2 = y := ⟨_, rfl⟩
  subst hyv
  cases a6
  case false =>
    go_upto_region 9 with fail
    obtain ⟨x, hxw⟩ : ∃ x, n * 64 = x := ⟨_, rfl⟩
    rw [hxw]
    have x0 : 0 ≤ x := by omega
    have x1 : x ≤ 1000 := by omega
    have hdv : x / 64 = n := by omega
    have hmd : ¬ 0 ≤ x % 64 - 1 := by omega
    have HX := Lib.hid (And.intro hdv hmd)
    clear hxw hdv hmd
    have hse : Calls _ _ _ _ _ := lb_set L2.out.drew 2 (by decide) o hA2 x
    have hs0 : (fun W : World => W.cell? ⟨gp, 0, none⟩ = some (.pointer (some ⟨b, 0, none⟩)) ∧ W.cell? ⟨gp, 1, none⟩ = some (.pointer (some ⟨rb, 0, none⟩)) ∧ W.cell? ⟨gc, 1, none⟩ = some (.int .i64 q.o)) W2.drew := ⟨L2.out.drew.c 0 0 rfl rfl, L2.out.drew.c 0 1 rfl rfl, L2.out.drew.c 1 1 rfl rfl⟩
    go_region_held3 (fun W : World => W.cell? ⟨gp, 0, none⟩ = some (.pointer (some ⟨b, 0, none⟩)) ∧ W.cell? ⟨gp, 1, none⟩ = some (.pointer (some ⟨rb, 0, none⟩)) ∧ W.cell? ⟨gc, 1, none⟩ = some (.int .i64 q.o)) (first | (with_reducible exact hs0) | (with_reducible assumption)) (first
      | (go_at_call 21; (with_reducible refine hse.mono ?_); rintro e w7 ⟨rfl, hL⟩; have hs1 : (fun W : World => W.cell? ⟨gp, 0, none⟩ = some (.pointer (some ⟨b, 0, none⟩)) ∧ W.cell? ⟨gp, 1, none⟩ = some (.pointer (some ⟨rb, 0, none⟩)) ∧ W.cell? ⟨gc, 1, none⟩ = some (.int .i64 q.o)) w7 := ⟨hL.c 0 0 rfl rfl, hL.c 0 1 rfl rfl, hL.c 1 1 rfl rfl⟩; have hse2 := lb_set hL 1 (by decide) a (by rw [upd_len]; exact hA1) a2)
      | (go_at_call 21; (with_reducible refine hse2.mono ?_); rintro e w8 ⟨rfl, hL2⟩; have hs2 : (fun W : World => W.cell? ⟨gp, 0, none⟩ = some (.pointer (some ⟨b, 0, none⟩)) ∧ W.cell? ⟨gp, 1, none⟩ = some (.pointer (some ⟨rb, 0, none⟩)) ∧ W.cell? ⟨gc, 1, none⟩ = some (.int .i64 q.o)) w8 := ⟨hL2.c 0 0 rfl rfl, hL2.c 0 1 rfl rfl, hL2.c 1 1 rfl rfl⟩))
    have L3 := Lib.hid hL2
    clear hse hse2 hL hL2 hs0 hs1 hs2
    clear L2 c2_gc_0 c2_gc_1
    have hx : (upd (upd A 2 o x) 1 a a2 2).getD o 0 = x := by rw [upd_off (by decide)]; exact upd_at hA2
    have ho : o < (upd (upd A 2 o x) 1 a a2 2).length := by rw [upd_len, upd_len]; exact hA2
    have ha : a < (upd (upd A 2 o x) 1 a a2 1).length := by rw [upd_len, upd_len]; exact hA1
    have hy : (upd (upd A 2 o x) 1 a a2 1).getD a 0 = a2 := upd_at (by rw [upd_len]; exact hA1)
    clear hA1 hA2 HL Z2
    obtain ⟨A1, hA⟩ : ∃ A', (upd (upd A 2 o x) 1 a a2) = A' := ⟨_, rfl⟩
    rw [hA] at hx ho ha hy L3
    clear hA
    have c3_gc_1 : w8.cell? ⟨gc, 1, none⟩ = some (.int .i64 q.o) := L3.out.c 1 1 rfl rfl
    go_upto_region 12 with (go_at_call 50; (with_reducible refine (rd_new _ _ _ _).mono ?_); rintro e w9 ⟨rfl, rfl⟩)
    have L4 := Lib.hid (L3.out.new TRd #[.int .i64 0, .int .i64 a, .int .i64 o, .int .i64 r, .int .u64 0, .int .u64 0, .bool false])
    simp only [List.cons_append, List.nil_append] at L4
    have Z_gx : Hid ((w8.alloc (.cells #[.int .i64 0, .int .i64 a, .int .i64 o, .int .i64 r, .int .u64 0, .int .u64 0, .bool false] TRd)).heap.size = w8.heap.size + 1) := Lib.hid (size_new _ _)
    obtain ⟨gx, hn⟩ : ∃ gx, w8.heap.size = gx := ⟨_, rfl⟩
    rw [hn] at L4 Z_gx
    first | rw [hn] | skip
    clear hn
    obtain ⟨W4, hW⟩ : ∃ W', w8.alloc (.cells #[.int .i64 0, .int .i64 a, .int .i64 o, .int .i64 r, .int .u64 0, .int .u64 0, .bool false] TRd) = W' := ⟨_, rfl⟩
    rw [hW] at L4 Z_gx
    first | rw [hW] | skip
    clear hW
    clear L3 c3_gc_1
    have L4 : Hid (Lb w0 lo hi b rb q A1 A1 [(gp, TP, #[.pointer (some ⟨b, 0, none⟩), .pointer (some ⟨rb, 0, none⟩)]), (gc, TC, #[.int .i64 q.w, .int .i64 q.o, .int .i64 q.b, .int .i64 q.c0, .int .i64 q.c1, .int .i64 q.c2, .int .i64 q.c3, .int .i64 q.r, .int .i64 q.t, .int .i64 q.a, .int .i64 q.f, .int .i64 q.k, .bool q.s]), (gx, TRd, pB a o r 0 0 0)] W4) := L4
    clear Z_gx
    clear ho1 ho2
    go_wp2_with fail
    go_loopw [24] (fun iv wr => ∃ (i : Nat) (t bf vl : Int), iv = .int .i64 i ∧ Hid (Cs (r < n) x a2 i t bf vl) ∧ Lb w0 lo hi b rb q A1 A1 [(gp, TP, #[.pointer (some ⟨b, 0, none⟩), .pointer (some ⟨rb, 0, none⟩)]), (gc, TC, #[.int .i64 q.w, .int .i64 q.o, .int .i64 q.b, .int .i64 q.c0, .int .i64 q.c1, .int .i64 q.c2, .int .i64 q.c3, .int .i64 q.r, .int .i64 q.t, .int .i64 q.a, .int .i64 q.f, .int .i64 q.k, .bool q.s]), (gx, TRd, pB a o r t bf vl)] wr) (fun iv _ => 4 - (intOf iv).toNat)
    case atStart => exact ⟨0, 0, 0, 0, rfl, Lib.hid (cs_0 _ _ _), L4.out⟩
    case round =>
      clear L4
      obtain ⟨i, t, bf, vl, rfl, HC, hL⟩ := hrel
      have L0 := Lib.hid hL
      clear hL
      have hi3 : i ≤ 3 := cs_le HC.out
      have ht := cs_in HC.out
      by_cases h3 : 3 ≤ t
      · rcases cs_end HC.out h3 with ⟨hC, rfl, rfl⟩ | ⟨hC, rfl, rfl, rfl⟩
        · clear h3 ht hi3 HC
          have hgt : r < n := hC
          clear hC
          go_wp2_with (first
            | (go_at_call 55; (with_reducible refine (x_done L0.out 2 rfl (by decide) (D := true) (Lib.hid rfl)).mono ?_); rintro e w7 ⟨rfl, rfl⟩)
            | (go_at_call 57; (with_reducible refine (x_conflict L0.out 2 rfl (C := true) (Lib.hid rfl)).mono ?_); rintro e w7 ⟨rfl, rfl⟩)
            | (go_at_call 58; (with_reducible refine (x_value L0.out 2 rfl (by decide) (v := 0) (Lib.hid rfl)).mono ?_); rintro e w7 ⟨rfl, n7, rfl⟩)
            | (go_at_call 59; refine (l_awake _).mono ?_; rintro e w9 ⟨rfl, hb⟩))
          have HBF := Lib.hid (below_trans2 HB0.out (below_trans2 (below_drewN L0.out.old _) hb))
          clear hb
          go_ret
          exact ⟨rfl, .of_below HBF.out⟩
        · clear h3 ht hi3 HC
          have hle : n ≤ r := by omega
          clear hC
          go_wp2_with (first
            | (go_at_call 55; (with_reducible refine (x_done L0.out 2 rfl (by decide) (D := true) (Lib.hid rfl)).mono ?_); rintro e w7 ⟨rfl, rfl⟩)
            | (go_at_call 57; (with_reducible refine (x_conflict L0.out 2 rfl (C := false) (Lib.hid rfl)).mono ?_); rintro e w7 ⟨rfl, rfl⟩)
            | (go_at_call 58; (with_reducible refine (x_value L0.out 2 rfl (by decide) (v := vl) (Lib.hid rfl)).mono ?_); rintro e w7 ⟨rfl, n7, rfl⟩)
            | (go_at_call 59; refine (l_awake _).mono ?_; rintro e w9 ⟨rfl, hb⟩))
          have HBF := Lib.hid (below_trans2 HB0.out (below_trans2 (below_drewN L0.out.old _) hb))
          clear hb
          go_ret
          exact ⟨rfl, .of_below HBF.out⟩
      · have h3f : decide (3 ≤ t) = false := decide_eq_false h3
        have hiI : (i : Int) < 5 := by omega
        have c0_gp_0 : wr.cell? ⟨gp, 0, none⟩ = some (.pointer (some ⟨b, 0, none⟩)) := L0.out.c 0 0 rfl rfl
        have c0_gp_1 : wr.cell? ⟨gp, 1, none⟩ = some (.pointer (some ⟨rb, 0, none⟩)) := L0.out.c 0 1 rfl rfl
        obtain ⟨k1, k2, k3, k4, k5, d, hv⟩ := nAc_ex a o x a2 t
        have hst := x_step L0.out 2 rfl ht ho ha hx x0 (by omega) hy (Lib.hid hv)
        have hdn := x_done L0.out 2 rfl ht (Lib.hid h3f)
        clear hv h3f
        go_wp2_with (first
          | (go_at_call 55; refine hdn.mono ?_; rintro e w5 ⟨rfl, rfl⟩)
          | (go_at_call 53; refine hst.mono ?_; rintro e w6 ⟨rfl, hL⟩; have L1 := Lib.hid hL; clear hL))
        go_roundw
        case rel => exact ⟨i + 1, _, _, _, by go_num, Lib.hid (cs_step ⟨fun h => .inr (by rw [HX.out.1]; exact h), fun h => by have := HX.out.1; have := HX.out.2; omega⟩ (by omega) HC.out), L1.out⟩
        case measure => simp [intOf]; omega
  case true =>
    go_upto_region 9 with (first
      | (go_at_call 14; refine (k_place_ex _ _ (by omega) (by omega) _).mono ?_; rintro e w6 ⟨th, th0, th1, rfl, rfl⟩)
      | (go_at_call 60; refine (r_held _ _ (by omega) (by omega) (by omega) (by omega) _).mono ?_; rintro e w7 ⟨rfl, rfl⟩))
    obtain ⟨x, hxw⟩ : ∃ x, n * 64 + th + 1 = x := ⟨_, rfl⟩
    rw [hxw]
    have x0 : 0 ≤ x := by omega
    have x1 : x ≤ 1000 := by omega
    have hdv : x / 64 = n := by omega
    have hmd : 0 ≤ x % 64 - 1 := by omega
    have HX := Lib.hid (And.intro hdv hmd)
    clear hxw hdv hmd
    have hse : Calls _ _ _ _ _ := lb_set L2.out.drew 2 (by decide) o hA2 x
    have hs0 : (fun W : World => W.cell? ⟨gp, 0, none⟩ = some (.pointer (some ⟨b, 0, none⟩)) ∧ W.cell? ⟨gp, 1, none⟩ = some (.pointer (some ⟨rb, 0, none⟩)) ∧ W.cell? ⟨gc, 1, none⟩ = some (.int .i64 q.o)) W2.drew := ⟨L2.out.drew.c 0 0 rfl rfl, L2.out.drew.c 0 1 rfl rfl, L2.out.drew.c 1 1 rfl rfl⟩
    go_region_held3 (fun W : World => W.cell? ⟨gp, 0, none⟩ = some (.pointer (some ⟨b, 0, none⟩)) ∧ W.cell? ⟨gp, 1, none⟩ = some (.pointer (some ⟨rb, 0, none⟩)) ∧ W.cell? ⟨gc, 1, none⟩ = some (.int .i64 q.o)) (first | (with_reducible exact hs0) | (with_reducible assumption)) (first
      | (go_at_call 21; (with_reducible refine hse.mono ?_); rintro e w7 ⟨rfl, hL⟩; have hs1 : (fun W : World => W.cell? ⟨gp, 0, none⟩ = some (.pointer (some ⟨b, 0, none⟩)) ∧ W.cell? ⟨gp, 1, none⟩ = some (.pointer (some ⟨rb, 0, none⟩)) ∧ W.cell? ⟨gc, 1, none⟩ = some (.int .i64 q.o)) w7 := ⟨hL.c 0 0 rfl rfl, hL.c 0 1 rfl rfl, hL.c 1 1 rfl rfl⟩; have hse2 := lb_set hL 1 (by decide) a (by rw [upd_len]; exact hA1) a2)
      | (go_at_call 21; (with_reducible refine hse2.mono ?_); rintro e w8 ⟨rfl, hL2⟩; have hs2 : (fun W : World => W.cell? ⟨gp, 0, none⟩ = some (.pointer (some ⟨b, 0, none⟩)) ∧ W.cell? ⟨gp, 1, none⟩ = some (.pointer (some ⟨rb, 0, none⟩)) ∧ W.cell? ⟨gc, 1, none⟩ = some (.int .i64 q.o)) w8 := ⟨hL2.c 0 0 rfl rfl, hL2.c 0 1 rfl rfl, hL2.c 1 1 rfl rfl⟩))
    have L3 := Lib.hid hL2
    clear hse hse2 hL hL2 hs0 hs1 hs2
    clear L2 c2_gc_0 c2_gc_1
    have hx : (upd (upd A 2 o x) 1 a a2 2).getD o 0 = x := by rw [upd_off (by decide)]; exact upd_at hA2
    have ho : o < (upd (upd A 2 o x) 1 a a2 2).length := by rw [upd_len, upd_len]; exact hA2
    have ha : a < (upd (upd A 2 o x) 1 a a2 1).length := by rw [upd_len, upd_len]; exact hA1
    have hy : (upd (upd A 2 o x) 1 a a2 1).getD a 0 = a2 := upd_at (by rw [upd_len]; exact hA1)
    clear hA1 hA2 HL Z2
    obtain ⟨A1, hA⟩ : ∃ A', (upd (upd A 2 o x) 1 a a2) = A' := ⟨_, rfl⟩
    rw [hA] at hx ho ha hy L3
    clear hA
    have c3_gc_1 : w8.cell? ⟨gc, 1, none⟩ = some (.int .i64 q.o) := L3.out.c 1 1 rfl rfl
    go_upto_region 12 with (go_at_call 50; (with_reducible refine (rd_new _ _ _ _).mono ?_); rintro e w9 ⟨rfl, rfl⟩)
    have L4 := Lib.hid (L3.out.new TRd #[.int .i64 0, .int .i64 a, .int .i64 o, .int .i64 r, .int .u64 0, .int .u64 0, .bool false])
    simp only [List.cons_append, List.nil_append] at L4
    have Z_gx : Hid ((w8.alloc (.cells #[.int .i64 0, .int .i64 a, .int .i64 o, .int .i64 r, .int .u64 0, .int .u64 0, .bool false] TRd)).heap.size = w8.heap.size + 1) := Lib.hid (size_new _ _)
    obtain ⟨gx, hn⟩ : ∃ gx, w8.heap.size = gx := ⟨_, rfl⟩
    rw [hn] at L4 Z_gx
    first | rw [hn] | skip
    clear hn
    obtain ⟨W4, hW⟩ : ∃ W', w8.alloc (.cells #[.int .i64 0, .int .i64 a, .int .i64 o, .int .i64 r, .int .u64 0, .int .u64 0, .bool false] TRd) = W' := ⟨_, rfl⟩
    rw [hW] at L4 Z_gx
    first | rw [hW] | skip
    clear hW
    clear L3 c3_gc_1
    have L4 : Hid (Lb w0 lo hi b rb q A1 A1 [(gp, TP, #[.pointer (some ⟨b, 0, none⟩), .pointer (some ⟨rb, 0, none⟩)]), (gc, TC, #[.int .i64 q.w, .int .i64 q.o, .int .i64 q.b, .int .i64 q.c0, .int .i64 q.c1, .int .i64 q.c2, .int .i64 q.c3, .int .i64 q.r, .int .i64 q.t, .int .i64 q.a, .int .i64 q.f, .int .i64 q.k, .bool q.s]), (gx, TRd, pB a o r 0 0 0)] W4) := L4
    clear Z_gx
    clear ho1 ho2
    go_wp2_with fail
    go_loopw [24] (fun iv wr => ∃ (i : Nat) (t bf vl : Int), iv = .int .i64 i ∧ Hid (Cs (True) x a2 i t bf vl) ∧ Lb w0 lo hi b rb q A1 A1 [(gp, TP, #[.pointer (some ⟨b, 0, none⟩), .pointer (some ⟨rb, 0, none⟩)]), (gc, TC, #[.int .i64 q.w, .int .i64 q.o, .int .i64 q.b, .int .i64 q.c0, .int .i64 q.c1, .int .i64 q.c2, .int .i64 q.c3, .int .i64 q.r, .int .i64 q.t, .int .i64 q.a, .int .i64 q.f, .int .i64 q.k, .bool q.s]), (gx, TRd, pB a o r t bf vl)] wr) (fun iv _ => 4 - (intOf iv).toNat)
    case atStart => exact ⟨0, 0, 0, 0, rfl, Lib.hid (cs_0 _ _ _), L4.out⟩
    case round =>
      clear L4
      obtain ⟨i, t, bf, vl, rfl, HC, hL⟩ := hrel
      have L0 := Lib.hid hL
      clear hL
      have hi3 : i ≤ 3 := cs_le HC.out
      have ht := cs_in HC.out
      by_cases h3 : 3 ≤ t
      · rcases cs_end HC.out h3 with ⟨hC, rfl, rfl⟩ | ⟨hC, rfl, rfl, rfl⟩
        · clear h3 ht hi3 HC
          go_wp2_with (first
            | (go_at_call 55; (with_reducible refine (x_done L0.out 2 rfl (by decide) (D := true) (Lib.hid rfl)).mono ?_); rintro e w7 ⟨rfl, rfl⟩)
            | (go_at_call 57; (with_reducible refine (x_conflict L0.out 2 rfl (C := true) (Lib.hid rfl)).mono ?_); rintro e w7 ⟨rfl, rfl⟩)
            | (go_at_call 58; (with_reducible refine (x_value L0.out 2 rfl (by decide) (v := 0) (Lib.hid rfl)).mono ?_); rintro e w7 ⟨rfl, n7, rfl⟩)
            | (go_at_call 59; refine (l_awake _).mono ?_; rintro e w9 ⟨rfl, hb⟩))
          have HBF := Lib.hid (below_trans2 HB0.out (below_trans2 (below_drewN L0.out.old _) hb))
          clear hb
          go_ret
          exact ⟨rfl, .of_below HBF.out⟩
        · exact absurd trivial hC
      · have h3f : decide (3 ≤ t) = false := decide_eq_false h3
        have hiI : (i : Int) < 5 := by omega
        have c0_gp_0 : wr.cell? ⟨gp, 0, none⟩ = some (.pointer (some ⟨b, 0, none⟩)) := L0.out.c 0 0 rfl rfl
        have c0_gp_1 : wr.cell? ⟨gp, 1, none⟩ = some (.pointer (some ⟨rb, 0, none⟩)) := L0.out.c 0 1 rfl rfl
        obtain ⟨k1, k2, k3, k4, k5, d, hv⟩ := nAc_ex a o x a2 t
        have hst := x_step L0.out 2 rfl ht ho ha hx x0 (by omega) hy (Lib.hid hv)
        have hdn := x_done L0.out 2 rfl ht (Lib.hid h3f)
        clear hv h3f
        go_wp2_with (first
          | (go_at_call 55; refine hdn.mono ?_; rintro e w5 ⟨rfl, rfl⟩)
          | (go_at_call 53; refine hst.mono ?_; rintro e w6 ⟨rfl, hL⟩; have L1 := Lib.hid hL; clear hL))
        go_roundw
        case rel => exact ⟨i + 1, _, _, _, by go_num, Lib.hid (cs_step ⟨fun _ => .inl HX.out.2, fun _ => trivial⟩ (by omega) HC.out), L1.out⟩
        case measure => simp [intOf]; omega

/-! The row's step. -/
set_option maxRecDepth 100000 in
theorem lifted (os : Os) (started : os.Started) (H : Type) (enc : TypeId × Value → H) :
    ReturnsInHanded {} Try.checked os 10 .any (Rows.readerCalmSpec.pre6 enc Try.prog Try.f10 Rows.readerCalmRow.domain false) (Rows.readerCalmSpec.post enc Try.prog Try.f10 false true false false) := by
  refine returnsInHanded_of_change (C := Try.checked) own started (by kernel_rfl) Try.func10
    (ChangeSpec.witness6 (enc := enc) (C := Try.checked) false ⟨#[], #[.agg #[.int .i64 0, .int .i64 0, .int .i64 0, .int .i64 0, .int .i64 0], .int .i64 0, .int .u64 0, .int .i64 0, .int .i64 0, .int .i64 0, .bool false], []⟩ 8 (by kernel_rfl) (by kernel_rfl) (by kernel_rfl) (by kernel_rfl)) ?_
  intro W base args ds gs before hval0 hW hcnd _
  have hval : ∀ (j : Nat) t v, Try.f10.params[j]? = some t → args[j]? = some v → Value.okWide Try.prog W .any base t v := hval0
  have hW' := hW
  obtain ⟨p, q, hA0, hV, rfl, hfz, hnd⟩ := hW
  have hA : DataW.TrodAll enc Try.prog W 0 (fun _ => true) true Try.f10.params.toList args.toList ds p := hA0
  rw [Try.params10] at hA hval
  obtain ⟨v0, vs0, d0, ds0, p0, q0, hargs, rfl, rfl, h0, r0⟩ := trodAll_cons hA
  obtain ⟨v1, vs1, d1, ds1, p1, q1, rfl, rfl, rfl, h1, r1⟩ := trodAll_cons r0
  obtain ⟨v2, vs2, d2, ds2, p2, q2, rfl, rfl, rfl, h2, r2⟩ := trodAll_cons r1
  obtain ⟨v3, vs3, d3, ds3, p3, q3, rfl, rfl, rfl, h3, r3⟩ := trodAll_cons r2
  obtain ⟨v4, vs4, d4, ds4, p4, q4, rfl, rfl, rfl, h4, r4⟩ := trodAll_cons r3
  obtain ⟨v5, vs5, d5, ds5, p5, q5, rfl, rfl, rfl, h5, r5⟩ := trodAll_cons r4
  obtain ⟨v6, vs6, d6, ds6, p6, q6, rfl, rfl, rfl, h6, r6⟩ := trodAll_cons r5
  obtain ⟨rfl, rfl, rfl⟩ := trodAll_nil r6
  obtain rfl : args = #[v0, v1, v2, v3, v4, v5, v6] := by cases args; simp_all
  obtain ⟨rfl, rfl⟩ := trodVars_none hV
  have hk : ∀ W', Kept W W' → Rows.readerCalmSpec.post enc Try.prog Try.f10 false true false false W #[v0, v1, v2, v3, v4, v5, v6] (.bool true) W' := fun W' hb =>
    post_law laidOut readable rfl Try.underlying4 rfl hW' rfl hb
  clear hA0 hval0 hA hW'
  obtain ⟨x0_0, x0_1, x0_2, x0_3, x0_4, rfl, wx0_0, wx0_1, wx0_2, wx0_3, wx0_4⟩ := LayO.open_arr5 (hval 0 22 v0 rfl rfl) h0
  obtain ⟨a1, rfl, rfl, rfl, w1⟩ := open_int Try.underlying3 (hval 1 3 v1 rfl rfl) h1
  obtain ⟨a2, rfl, rfl, rfl, w2⟩ := open_int Try.underlying29 (hval 2 29 v2 rfl rfl) h2
  obtain ⟨a3, rfl, rfl, rfl, w3⟩ := open_int Try.underlying3 (hval 3 3 v3 rfl rfl) h3
  obtain ⟨a4, rfl, rfl, rfl, w4⟩ := open_int Try.underlying3 (hval 4 3 v4 rfl rfl) h4
  obtain ⟨a5, rfl, rfl, rfl, w5⟩ := open_int Try.underlying3 (hval 5 3 v5 rfl rfl) h5
  obtain ⟨a6, rfl, rfl, rfl⟩ := open_bool Try.underlying4 (hval 6 4 v6 rfl rfl) h6
  refine (walk W x0_0 x0_1 x0_2 x0_3 x0_4 wx0_0 wx0_1 wx0_2 wx0_3 wx0_4 a1 w1 a2 w2 a3 w3 a4 w4 a5 w5 a6).mono fun e W' ⟨he, hg⟩ => ?_
  subst he
  exact ⟨_, rfl, hk W' hg⟩

theorem over : Rows.readerCalmRow.holds Try.pinned (OpenSpec.ofChange Rows.readerCalmSpec) :=
  OpenClaim.holds_of_wide 10 Try.f10 rfl rfl rfl rfl rfl rfl rfl ⟨rfl, rfl, rfl, rfl, rfl⟩ rfl rfl rfl rfl rfl (by kernel_rfl) Try.func10 (by kernel_rfl)
    (of_decide_eq_true (by kernel_rfl)) (by unfold Func.isWrapper; first | (rw [if_pos (by decide +kernel)]; kernel_rfl) | (rw [if_neg (by decide +kernel)]; exact ⟨rfl, rfl⟩))
    (fun os started H enc _ => lifted os started H enc)

/-- The statement. -/
theorem proved : Rows.ReaderCalmSaid :=
  over
#print axioms proved
end Go.Proofs.Ytcbhpoajpingcaa.readerCalm
