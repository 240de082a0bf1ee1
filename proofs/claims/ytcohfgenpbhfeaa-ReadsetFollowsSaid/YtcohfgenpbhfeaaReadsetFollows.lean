/-
  Proved: a set with any capacity has the elements and answers of the document after each addition. No condition.
-/
import Derived.Test.YtcohfgenpbhfeaaRows
import Derived.WalkKit
import Derived.ProofKit
import Derived.OpenShut
import Derived.Test.YtcohfgenpbhfeaaFrame
import Derived.Test.YtcohfgenpbhfeaaRsD
import Derived.Deep.RegionHeld3
import Derived.Test.YtcohfgenpbhfeaaRgn
import Derived.Deep.RegionLaw
import Derived.Deep.Cut
import Derived.Deep.DeepCutAuto
namespace Go.Proofs.Ytcohfgenpbhfeaa.readsetFollows
open Go.ChangeShapes Go.WideShapes Go.ChangeAt Go.RowKit
open LawFrame
open Go.ChangeMaps (open_string)
set_option linter.unusedVariables false

theorem own : ownKnob Try.prog.godebug = none := by kernel_rfl
theorem laidOut : laidOutB Try.prog = true := by kernel_rfl
theorem cells3 : Try.prog.cellsOf 3 = 1 := by kernel_rfl

open PlainT BlkW CelS CelM CelV CelN LabD FreV FreI RsA RsB RsC RsD
set_option maxHeartbeats 8000000
set_option maxRecDepth 100000
/-- What holds of the world while the long condition is reckoned: before the additions, between them, behind them, behind the copy, behind the comparison. -/
def Tst (W0 w00 : World) (B gs r : Nat) (q : Int) (u : Value) (xs ys : List Int) (c1 c2 c3 c4 : Bool) (g : Option Addr × Nat × Nat) (w : World) : Prop :=
  match c1, c2, c3, c4 with
  | false, _, _, _ => w = W0
  | true, false, _, _ => ∃ v1, SetIs w B gs TS q v1 ys ∧ SetIs w B r TR q u xs ∧ Dis v1 u ∧ Below B w00 w
  | true, true, false, _ => ∃ v1, Two w B gs r q v1 (.slice g.1 ys.length g.2.1) ys ∧ Below B w00 w
  | true, true, true, false => (∃ v1, Two w B gs r q v1 (.slice g.1 ys.length g.2.1) ys ∧ Below B w00 w) ∧ RdI w (.slice (some ⟨g.2.2, 0, none⟩) ys.length ys.length) ys
  | true, true, true, true => ∃ v1, Two w B gs r q v1 (.slice g.1 ys.length g.2.1) ys ∧ Below B w00 w
theorem tst_cell {W0 w00 : World} {B gs r : Nat} {q : Int} {u : Value} {xs ys : List Int} {c3 c4 : Bool} {g : Option Addr × Nat × Nat} {w : World} (h : Tst W0 w00 B gs r q u xs ys true true c3 c4 g w) : w.cell? ⟨r, 1, none⟩ = some (.slice g.1 ys.length g.2.1) := by
  have : ∃ v1, Two w B gs r q v1 (.slice g.1 ys.length g.2.1) ys ∧ Below B w00 w := by
    cases c3 <;> cases c4
    · exact h
    · exact h
    · exact h.1
    · exact h
  obtain ⟨v1, hT, _⟩ := this
  exact hT.t.box.cell 1

theorem readable : ∀ t ∈ Try.f3.params.toList, Try.prog.readableRec t = true ∧ t < Try.prog.types.size := by
  have h : (Try.f3.params.toList.all fun t => Try.prog.readableRec t && decide (t < Try.prog.types.size)) = true := by kernel_rfl
  intro t ht
  have := List.all_eq_true.1 h t ht
  simpa using this

/-! The walk. -/
theorem walk (w : World) (a0 : Int) (w0 : (Lit.int .i64 a0).wf = true) (A1 : Option Addr) (n1 c1 : Nat) (z1 : List Int) (l1 : n1 ≤ c1) (m1 : c1 ≤ maxLen) (s1 : Ints .i64 w A1 n1 z1) (a2 : Bool) :
    Calls Try.prog 3 #[.int .i64 a0, .slice A1 n1 c1, .bool a2] w fun e w' => e = .returned (.bool true) ∧ Kept w w' := by
  have HZ := Lib.hid s1
  clear s1
  go_enter Try.func3, Try.ntmps3
  by_cases hbig : (60 : Int) < n1
  · go_wp2_with fail
    refine (RsC.l_awake _).mono ?_
    rintro e w3 ⟨rfl, hb1⟩
    have HB1 := Lib.hid hb1
    clear hb1
    go_wp2
    go_ret
    exact ⟨rfl, .of_below HB1.out⟩
  · have hn : (n1 : Int) ≤ 60 := by omega
    clear hbig
    obtain ⟨q, hq⟩ : ∃ q, max 0 (min a0 32) = q := ⟨_, rfl⟩
    have q0 : 0 ≤ q := by omega
    have q32 : q ≤ 32 := by omega
    have hnw := a_new w a0 q hq
    have hrw := fun w => r_new w a0 q hq
    clear hq
    go_upto_region 6 with (first | (go_at_call 8; refine hnw.mono ?_; rintro e w2 ⟨rfl, rfl⟩) | (go_at_call 9; refine (hrw _).mono ?_; rintro e w2 ⟨rfl, rfl⟩))
    have hS0 := (set_new w TS w.heap.size q (by decide) (Nat.le_refl _) q0 q32).alloc (.cells #[.int .i64 q, .slice none 0 0] TR)
    have hR0 := set_new (w.alloc (.cells #[.int .i64 q, .slice none 0 0] TS)) TR w.heap.size q (by decide) (by rw [size_new]; omega) q0 q32
    have hB0 := below_new2 w (.cells #[.int .i64 q, .slice none 0 0] TS) (.cells #[.int .i64 q, .slice none 0 0] TR)
    rw [size_new] at hR0
    have HT0 : Hid (Two _ _ _ _ q _ _ []) := Lib.hid ⟨hS0, hR0, fun y h => by simp [Value.ownBlock] at h⟩
    obtain ⟨W0, hW⟩ : ∃ W', (w.alloc (.cells #[.int .i64 q, .slice none 0 0] TS)).alloc (.cells #[.int .i64 q, .slice none 0 0] TR) = W' := ⟨_, rfl⟩
    rw [hW] at HT0 hB0
    first | rw [hW] | skip
    have HB0 := Lib.hid hB0
    clear hW hnw hrw hS0 hR0 hB0
    go_wp2_with fail
    go_loopw [9] (fun kv wr => ∃ (k : Nat) (v u : Value) (xs : List Int), k ≤ n1 ∧ kv = .int .i64 k ∧ Two wr w.heap.size w.heap.size (w.heap.size + 1) q v u xs ∧ Below w.heap.size w wr) (fun kv _ => n1 - (intOf kv).toNat)
    case atStart => exact ⟨0, _, _, [], by omega, rfl, HT0.out, HB0.out⟩
    case round =>
      clear HT0 HB0
      obtain ⟨k, v, u, xs, hk, rfl, ht, hb⟩ := hrel
      have HT := Lib.hid ht
      have HB := Lib.hid hb
      clear ht hb
      by_cases hlt : k < n1
      · have hltI : (k : Int) < n1 := by omega
        obtain ⟨tb, toff, tx, rfl, htb, htc⟩ := iat HZ.out HB.out hlt
        obtain ⟨t12, ht12⟩ : ∃ t, pl tx 12 = t := ⟨_, rfl⟩
        have hpl := k_place tx 12 t12 (by decide) (by decide) ht12
        clear ht12
        go_upto_if 31 with (fail)
        go_cut [10] (fun s wc => ∃ t : Int, s = .int .i64 t ∧ wc = wr)
        case first =>
          cases a2 with
          | false =>
            go_wp2_with fail
            all_goals go_meet
            all_goals exact ⟨_, rfl, rfl⟩
          | true =>
            go_wp2_with (go_at_call 10; refine (hpl _).mono ?_; rintro e w1 ⟨rfl, rfl⟩)
            all_goals go_meet
            all_goals exact ⟨_, rfl, rfl⟩
        case rest =>
          obtain ⟨t, rfl, rfl⟩ := hcut
          clear hpl htc
          obtain ⟨t1, ht1⟩ : ∃ t1, IntKind.i64.wrap (t + 1) = t1 := ⟨_, rfl⟩
          obtain ⟨ys, hys⟩ : ∃ ys, adds q xs t = ys := ⟨_, rfl⟩
          obtain ⟨n, hnn⟩ : ∃ n, ys.length = n := ⟨_, rfl⟩
          obtain ⟨rr, hr⟩ : ∃ r, said q xs t = r := ⟨_, rfl⟩
          obtain ⟨b0, hb0⟩ : ∃ b0, decide (t ∈ ys) = b0 := ⟨_, rfl⟩
          obtain ⟨b1, hb1⟩ : ∃ b1, decide (t1 ∈ ys) = b1 := ⟨_, rfl⟩
          have HYS := Lib.hid hys
          have HR := Lib.hid hr
          have HB0 := Lib.hid hb0
          have HB1 := Lib.hid hb1
          have HN := Lib.hid hnn
          have HTD := Lib.hid (HT.out.drewN 1)
          have HBD := Lib.hid (below_drewN HB.out 1)
          rw [show wc.drewN 1 = wc.drew from rfl] at HTD HBD
          have c1 := a_add_to HTD.out.s HBD.out.size t rr ys hr hys
          clear hys hr hb0 hb1 hnn HT HB
          go_upto_region 12 with (fail)
          refine Rgn.region_lists (by kernel_rfl) [some 34, some 35, some 36, some 37, some 38, some 39, some 40, some 41, some 42, some 43, some 44, some 45, some 46, some 47, some 48, some 49, some 50, some 51, some 52, some 53, some 54, some 55, some 56, some 57, some 58, some 59, some 60, some 61, some 62, some 63, some 64, some 65, some 66, some 67, some 68, some 69, some 70, some 71, some 72, some 73, some 74, some 75, some 76, some 77, some 78, some 79, some 80, some 81, some 82, some 83, some 84, some 85, some 86]
            (fun g => [.pointer (some ⟨w.heap.size, 0, none⟩), .int .i64 t, .bool rr, .pointer (some ⟨w.heap.size + 1, 0, none⟩), .int .i64 t, .bool rr, .bool false, .bool false, .pointer (some ⟨w.heap.size, 0, none⟩), .int .i64 n, .pointer (some ⟨w.heap.size + 1, 0, none⟩), .pointer (some ⟨w.heap.size + 1, 0, none⟩), .pointer (some ⟨w.heap.size + 1, 1, none⟩), .slice g.1 n g.2.1, .int .i64 n, .bool false, .bool false, .bool false, .pointer (some ⟨w.heap.size, 0, none⟩), .slice (some ⟨g.2.2, 0, none⟩) n n, .pointer (some ⟨w.heap.size + 1, 0, none⟩), .pointer (some ⟨w.heap.size + 1, 0, none⟩), .pointer (some ⟨w.heap.size + 1, 1, none⟩), .slice g.1 n g.2.1, .bool true, .bool false, .bool false, .bool false, .pointer (some ⟨w.heap.size, 0, none⟩), .int .i64 t, .bool b0, .pointer (some ⟨w.heap.size + 1, 0, none⟩), .pointer (some ⟨w.heap.size + 1, 0, none⟩), .pointer (some ⟨w.heap.size + 1, 1, none⟩), .slice g.1 n g.2.1, .int .i64 t, .bool b0, .bool false, .bool false, .bool false, .pointer (some ⟨w.heap.size, 0, none⟩), .int .i64 t, .int .i64 t1, .bool b1, .pointer (some ⟨w.heap.size + 1, 0, none⟩), .pointer (some ⟨w.heap.size + 1, 0, none⟩), .pointer (some ⟨w.heap.size + 1, 1, none⟩), .slice g.1 n g.2.1, .int .i64 t, .int .i64 t1, .bool b1, .bool false, .bool false])
            (fun g L w9 => Tst wc.drew w w.heap.size w.heap.size (w.heap.size + 1) q u xs ys (L 2) (L 5) (L 19) (L 24) g w9) (none, 0, 0) 53 88 (by kernel_rfl) (by kernel_rfl) (fun _ => rfl) (by kernel_rfl) rfl rfl ?_ ?_
          · intro i hi g L a wq hS hLi hup hdn hold hv K hK
            have hi' : i = 0 ∨ i = 1 ∨ i = 2 ∨ i = 3 ∨ i = 4 ∨ i = 5 ∨ i = 6 ∨ i = 7 ∨ i = 8 ∨ i = 9 ∨ i = 10 ∨ i = 11 ∨ i = 12 ∨ i = 13 ∨ i = 14 ∨ i = 15 ∨ i = 16 ∨ i = 17 ∨ i = 18 ∨ i = 19 ∨ i = 20 ∨ i = 21 ∨ i = 22 ∨ i = 23 ∨ i = 24 ∨ i = 25 ∨ i = 26 ∨ i = 27 ∨ i = 28 ∨ i = 29 ∨ i = 30 ∨ i = 31 ∨ i = 32 ∨ i = 33 ∨ i = 34 ∨ i = 35 ∨ i = 36 ∨ i = 37 ∨ i = 38 ∨ i = 39 ∨ i = 40 ∨ i = 41 ∨ i = 42 ∨ i = 43 ∨ i = 44 ∨ i = 45 ∨ i = 46 ∨ i = 47 ∨ i = 48 ∨ i = 49 ∨ i = 50 ∨ i = 51 ∨ i = 52 := by omega
            clear hi
            rcases hi' with rfl | rfl | rfl | rfl | rfl | rfl | rfl | rfl | rfl | rfl | rfl | rfl | rfl | rfl | rfl | rfl | rfl | rfl | rfl | rfl | rfl | rfl | rfl | rfl | rfl | rfl | rfl | rfl | rfl | rfl | rfl | rfl | rfl | rfl | rfl | rfl | rfl | rfl | rfl | rfl | rfl | rfl | rfl | rfl | rfl | rfl | rfl | rfl | rfl | rfl | rfl | rfl | rfl
            · have q7 : a.tmps[7]?.getD undef = .pointer (some ⟨w.heap.size, 0, none⟩) := hold 7 (by kernel_rfl)
              have HS := Lib.hid hS
              clear hS hup hdn hold hv hLi
              refine Rgn.op_of rfl rfl ?_
              go_simp
              exact hK _ _ (fun _ _ _ => rfl) HS.out
            · have q10 : a.tmps[10]?.getD undef = .int .i64 t := hold 10 (by kernel_rfl)
              have HS := Lib.hid hS
              clear hS hup hdn hold hv hLi
              refine Rgn.op_of rfl rfl ?_
              go_simp
              exact hK _ _ (fun _ _ _ => rfl) HS.out
            · have q34 : a.tmps[34]?.getD undef = .pointer (some ⟨w.heap.size, 0, none⟩) := hv 0 34 (by kernel_rfl) (by kernel_rfl)
              have q35 : a.tmps[35]?.getD undef = .int .i64 t := hv 1 35 (by kernel_rfl) (by kernel_rfl)
              have z2 : L 2 = false := hLi
              have z5 : L 5 = false := hdn 5 rfl (by kernel_rfl)
              have h0 : Tst wc.drew w w.heap.size w.heap.size (w.heap.size + 1) q u xs ys (L 2) (L 5) (L 19) (L 24) g wq := hS
              rw [z2] at h0
              obtain rfl : wq = wc.drew := h0
              have HS := Lib.hid hS
              clear hS hup hdn hold hv hLi
              refine Rgn.op_of rfl rfl ?_
              go_simp
              go_at_call 11
              (with_reducible refine (c1).mono ?_)
              rintro e w5 ⟨rfl, v1, hS1, hF1, hob1⟩
              have h2 := HTD.out.left hF1 hob1
              refine hK g _ (fun _ _ _ => rfl) ?_
              show Tst wc.drew w w.heap.size w.heap.size (w.heap.size + 1) q u xs ys (Rgn.mark L 2 2) (Rgn.mark L 2 5) (Rgn.mark L 2 19) (Rgn.mark L 2 24) _ _
              rw [Rgn.mark_self, Rgn.mark_ne (show 5 ≠ 2 by decide), Rgn.mark_ne (show 19 ≠ 2 by decide), Rgn.mark_ne (show 24 ≠ 2 by decide), z5]
              exact ⟨v1, hS1, h2.1, h2.2, HBD.out.trans (HTD.out.s.step HBD.out.size hF1)⟩
            · have q8 : a.tmps[8]?.getD undef = .pointer (some ⟨w.heap.size + 1, 0, none⟩) := hold 8 (by kernel_rfl)
              have HS := Lib.hid hS
              clear hS hup hdn hold hv hLi
              refine Rgn.op_of rfl rfl ?_
              go_simp
              exact hK _ _ (fun _ _ _ => rfl) HS.out
            · have q10 : a.tmps[10]?.getD undef = .int .i64 t := hold 10 (by kernel_rfl)
              have HS := Lib.hid hS
              clear hS hup hdn hold hv hLi
              refine Rgn.op_of rfl rfl ?_
              go_simp
              exact hK _ _ (fun _ _ _ => rfl) HS.out
            · have q37 : a.tmps[37]?.getD undef = .pointer (some ⟨w.heap.size + 1, 0, none⟩) := hv 3 37 (by kernel_rfl) (by kernel_rfl)
              have q38 : a.tmps[38]?.getD undef = .int .i64 t := hv 4 38 (by kernel_rfl) (by kernel_rfl)
              have z2 : L 2 = true := hup 2 (by kernel_rfl)
              have z5 : L 5 = false := hLi
              have z19 : L 19 = false := hdn 19 rfl (by kernel_rfl)
              have h0 : Tst wc.drew w w.heap.size w.heap.size (w.heap.size + 1) q u xs ys (L 2) (L 5) (L 19) (L 24) g wq := hS
              rw [z2, z5] at h0
              obtain ⟨v1, hS1, hR1, hD1, hB1⟩ := h0
              have hc := r_add_to hR1 hB1.size t rr ys HR.out HYS.out
              have hag : ∀ (g' : Option Addr × Nat × Nat), ∀ j, j < 53 → L j = true → ((fun g : Option Addr × Nat × Nat => ([.pointer (some ⟨w.heap.size, 0, none⟩), .int .i64 t, .bool rr, .pointer (some ⟨w.heap.size + 1, 0, none⟩), .int .i64 t, .bool rr, .bool false, .bool false, .pointer (some ⟨w.heap.size, 0, none⟩), .int .i64 n, .pointer (some ⟨w.heap.size + 1, 0, none⟩), .pointer (some ⟨w.heap.size + 1, 0, none⟩), .pointer (some ⟨w.heap.size + 1, 1, none⟩), .slice g.1 n g.2.1, .int .i64 n, .bool false, .bool false, .bool false, .pointer (some ⟨w.heap.size, 0, none⟩), .slice (some ⟨g.2.2, 0, none⟩) n n, .pointer (some ⟨w.heap.size + 1, 0, none⟩), .pointer (some ⟨w.heap.size + 1, 0, none⟩), .pointer (some ⟨w.heap.size + 1, 1, none⟩), .slice g.1 n g.2.1, .bool true, .bool false, .bool false, .bool false, .pointer (some ⟨w.heap.size, 0, none⟩), .int .i64 t, .bool b0, .pointer (some ⟨w.heap.size + 1, 0, none⟩), .pointer (some ⟨w.heap.size + 1, 0, none⟩), .pointer (some ⟨w.heap.size + 1, 1, none⟩), .slice g.1 n g.2.1, .int .i64 t, .bool b0, .bool false, .bool false, .bool false, .pointer (some ⟨w.heap.size, 0, none⟩), .int .i64 t, .int .i64 t1, .bool b1, .pointer (some ⟨w.heap.size + 1, 0, none⟩), .pointer (some ⟨w.heap.size + 1, 0, none⟩), .pointer (some ⟨w.heap.size + 1, 1, none⟩), .slice g.1 n g.2.1, .int .i64 t, .int .i64 t1, .bool b1, .bool false, .bool false] : List Value)) g').getD j undef = ((fun g : Option Addr × Nat × Nat => ([.pointer (some ⟨w.heap.size, 0, none⟩), .int .i64 t, .bool rr, .pointer (some ⟨w.heap.size + 1, 0, none⟩), .int .i64 t, .bool rr, .bool false, .bool false, .pointer (some ⟨w.heap.size, 0, none⟩), .int .i64 n, .pointer (some ⟨w.heap.size + 1, 0, none⟩), .pointer (some ⟨w.heap.size + 1, 0, none⟩), .pointer (some ⟨w.heap.size + 1, 1, none⟩), .slice g.1 n g.2.1, .int .i64 n, .bool false, .bool false, .bool false, .pointer (some ⟨w.heap.size, 0, none⟩), .slice (some ⟨g.2.2, 0, none⟩) n n, .pointer (some ⟨w.heap.size + 1, 0, none⟩), .pointer (some ⟨w.heap.size + 1, 0, none⟩), .pointer (some ⟨w.heap.size + 1, 1, none⟩), .slice g.1 n g.2.1, .bool true, .bool false, .bool false, .bool false, .pointer (some ⟨w.heap.size, 0, none⟩), .int .i64 t, .bool b0, .pointer (some ⟨w.heap.size + 1, 0, none⟩), .pointer (some ⟨w.heap.size + 1, 0, none⟩), .pointer (some ⟨w.heap.size + 1, 1, none⟩), .slice g.1 n g.2.1, .int .i64 t, .bool b0, .bool false, .bool false, .bool false, .pointer (some ⟨w.heap.size, 0, none⟩), .int .i64 t, .int .i64 t1, .bool b1, .pointer (some ⟨w.heap.size + 1, 0, none⟩), .pointer (some ⟨w.heap.size + 1, 0, none⟩), .pointer (some ⟨w.heap.size + 1, 1, none⟩), .slice g.1 n g.2.1, .int .i64 t, .int .i64 t1, .bool b1, .bool false, .bool false] : List Value)) g).getD j undef := by
                intro g' j hj hLj
                have hj' : j = 0 ∨ j = 1 ∨ j = 2 ∨ j = 3 ∨ j = 4 ∨ j = 5 ∨ j = 6 ∨ j = 7 ∨ j = 8 ∨ j = 9 ∨ j = 10 ∨ j = 11 ∨ j = 12 ∨ j = 13 ∨ j = 14 ∨ j = 15 ∨ j = 16 ∨ j = 17 ∨ j = 18 ∨ j = 19 ∨ j = 20 ∨ j = 21 ∨ j = 22 ∨ j = 23 ∨ j = 24 ∨ j = 25 ∨ j = 26 ∨ j = 27 ∨ j = 28 ∨ j = 29 ∨ j = 30 ∨ j = 31 ∨ j = 32 ∨ j = 33 ∨ j = 34 ∨ j = 35 ∨ j = 36 ∨ j = 37 ∨ j = 38 ∨ j = 39 ∨ j = 40 ∨ j = 41 ∨ j = 42 ∨ j = 43 ∨ j = 44 ∨ j = 45 ∨ j = 46 ∨ j = 47 ∨ j = 48 ∨ j = 49 ∨ j = 50 ∨ j = 51 ∨ j = 52 := by omega
                rcases hj' with rfl | rfl | rfl | rfl | rfl | rfl | rfl | rfl | rfl | rfl | rfl | rfl | rfl | rfl | rfl | rfl | rfl | rfl | rfl | rfl | rfl | rfl | rfl | rfl | rfl | rfl | rfl | rfl | rfl | rfl | rfl | rfl | rfl | rfl | rfl | rfl | rfl | rfl | rfl | rfl | rfl | rfl | rfl | rfl | rfl | rfl | rfl | rfl | rfl | rfl | rfl | rfl | rfl
                all_goals first | rfl | (rw [hLi] at hLj; cases hLj) | (rw [hdn _ rfl (by kernel_rfl)] at hLj; cases hLj)
              have HS := Lib.hid hS
              clear hS hup hdn hold hv hLi
              refine Rgn.op_of rfl rfl ?_
              go_simp
              go_at_call 12
              (with_reducible refine (hc).mono ?_)
              rintro e w5 ⟨rfl, u1, hR2, hF2, hob2⟩
              have h3 := two_right hS1 hR1 hD1 hF2 hob2
              have hB2 := hB1.trans (hR1.step hB1.size hF2)
              obtain ⟨A1, d1, rfl⟩ := hR2.slice
              refine hK (A1, d1, 0) _ (hag _) ?_
              show Tst wc.drew w w.heap.size w.heap.size (w.heap.size + 1) q u xs ys (Rgn.mark L 5 2) (Rgn.mark L 5 5) (Rgn.mark L 5 19) (Rgn.mark L 5 24) _ _
              rw [Rgn.mark_self, Rgn.mark_ne (show 2 ≠ 5 by decide), Rgn.mark_ne (show 19 ≠ 5 by decide), Rgn.mark_ne (show 24 ≠ 5 by decide), z2, z19]
              exact ⟨v1, ⟨h3.1, hR2, h3.2⟩, hB2⟩
            · have q36 : a.tmps[36]?.getD undef = .bool rr := hv 2 36 (by kernel_rfl) (by kernel_rfl)
              have q39 : a.tmps[39]?.getD undef = .bool rr := hv 5 39 (by kernel_rfl) (by kernel_rfl)
              have HS := Lib.hid hS
              clear hS hup hdn hold hv hLi
              refine Rgn.op_of rfl rfl ?_
              go_simp
              exact hK _ _ (fun _ _ _ => rfl) HS.out
            · have q40 : a.tmps[40]?.getD undef = .bool false := hv 6 40 (by kernel_rfl) (by kernel_rfl)
              have HS := Lib.hid hS
              clear hS hup hdn hold hv hLi
              refine Rgn.op_of rfl rfl ?_
              go_simp
              exact hK _ _ (fun _ _ _ => rfl) HS.out
            · have q7 : a.tmps[7]?.getD undef = .pointer (some ⟨w.heap.size, 0, none⟩) := hold 7 (by kernel_rfl)
              have hgd : a.tmps[41]?.getD undef = .bool false := hv 7 41 (by kernel_rfl) (by kernel_rfl)
              have HS := Lib.hid hS
              clear hS hup hdn hold hv hLi
              refine Rgn.op_of_guard (j := 7) (d := 41) (b := false) rfl rfl (by kernel_rfl) hgd ?_
              clear hgd
              go_simp
              exact hK _ _ (fun _ _ _ => rfl) HS.out
            · have q42 : a.tmps[42]?.getD undef = .pointer (some ⟨w.heap.size, 0, none⟩) := hv 8 42 (by kernel_rfl) (by kernel_rfl)
              have hgd : a.tmps[41]?.getD undef = .bool false := hv 7 41 (by kernel_rfl) (by kernel_rfl)
              have z2 : L 2 = true := hup 2 (by kernel_rfl)
              have z5 : L 5 = true := hup 5 (by kernel_rfl)
              have z19 : L 19 = false := hdn 19 rfl (by kernel_rfl)
              have h0 : Tst wc.drew w w.heap.size w.heap.size (w.heap.size + 1) q u xs ys (L 2) (L 5) (L 19) (L 24) g wq := hS
              rw [z2, z5, z19] at h0
              obtain ⟨v1, hT1, hB1⟩ := h0
              have hc := a_len _ _ _ _ _ _ hT1.s
              rw [HN.out] at hc
              have HS := Lib.hid hS
              clear hS hup hdn hold hv hLi
              refine Rgn.op_of_guard (j := 7) (d := 41) (b := false) rfl rfl (by kernel_rfl) hgd ?_
              clear hgd
              go_simp
              go_at_call 13
              (with_reducible refine (hc).mono ?_)
              rintro e w5 ⟨rfl, rfl⟩
              exact hK _ _ (fun _ _ _ => rfl) HS.out
            · have q8 : a.tmps[8]?.getD undef = .pointer (some ⟨w.heap.size + 1, 0, none⟩) := hold 8 (by kernel_rfl)
              have hgd : a.tmps[41]?.getD undef = .bool false := hv 7 41 (by kernel_rfl) (by kernel_rfl)
              have HS := Lib.hid hS
              clear hS hup hdn hold hv hLi
              refine Rgn.op_of_guard (j := 7) (d := 41) (b := false) rfl rfl (by kernel_rfl) hgd ?_
              clear hgd
              go_simp
              exact hK _ _ (fun _ _ _ => rfl) HS.out
            · have q44 : a.tmps[44]?.getD undef = .pointer (some ⟨w.heap.size + 1, 0, none⟩) := hv 10 44 (by kernel_rfl) (by kernel_rfl)
              have hgd : a.tmps[41]?.getD undef = .bool false := hv 7 41 (by kernel_rfl) (by kernel_rfl)
              have HS := Lib.hid hS
              clear hS hup hdn hold hv hLi
              refine Rgn.op_of_guard (j := 7) (d := 41) (b := false) rfl rfl (by kernel_rfl) hgd ?_
              clear hgd
              go_simp
              exact hK _ _ (fun _ _ _ => rfl) HS.out
            · have q45 : a.tmps[45]?.getD undef = .pointer (some ⟨w.heap.size + 1, 0, none⟩) := hv 11 45 (by kernel_rfl) (by kernel_rfl)
              have hgd : a.tmps[41]?.getD undef = .bool false := hv 7 41 (by kernel_rfl) (by kernel_rfl)
              have HS := Lib.hid hS
              clear hS hup hdn hold hv hLi
              refine Rgn.op_of_guard (j := 7) (d := 41) (b := false) rfl rfl (by kernel_rfl) hgd ?_
              clear hgd
              go_simp
              exact hK _ _ (fun _ _ _ => rfl) HS.out
            · have q46 : a.tmps[46]?.getD undef = .pointer (some ⟨w.heap.size + 1, 1, none⟩) := hv 12 46 (by kernel_rfl) (by kernel_rfl)
              have hgd : a.tmps[41]?.getD undef = .bool false := hv 7 41 (by kernel_rfl) (by kernel_rfl)
              have z2 : L 2 = true := hup 2 (by kernel_rfl)
              have z5 : L 5 = true := hup 5 (by kernel_rfl)
              have h0 : Tst wc.drew w w.heap.size w.heap.size (w.heap.size + 1) q u xs ys (L 2) (L 5) (L 19) (L 24) g wq := hS
              rw [z2, z5] at h0
              have hc1 := tst_cell h0
              rw [HN.out] at hc1
              have HS := Lib.hid hS
              clear hS hup hdn hold hv hLi
              refine Rgn.op_of_guard (j := 7) (d := 41) (b := false) rfl rfl (by kernel_rfl) hgd ?_
              clear hgd
              go_simp
              exact hK _ _ (fun _ _ _ => rfl) HS.out
            · have q47 : a.tmps[47]?.getD undef = .slice g.1 n g.2.1 := hv 13 47 (by kernel_rfl) (by kernel_rfl)
              have hgd : a.tmps[41]?.getD undef = .bool false := hv 7 41 (by kernel_rfl) (by kernel_rfl)
              have HS := Lib.hid hS
              clear hS hup hdn hold hv hLi
              refine Rgn.op_of_guard (j := 7) (d := 41) (b := false) rfl rfl (by kernel_rfl) hgd ?_
              clear hgd
              go_simp
              exact hK _ _ (fun _ _ _ => rfl) HS.out
            · have q43 : a.tmps[43]?.getD undef = .int .i64 n := hv 9 43 (by kernel_rfl) (by kernel_rfl)
              have q48 : a.tmps[48]?.getD undef = .int .i64 n := hv 14 48 (by kernel_rfl) (by kernel_rfl)
              have hgd : a.tmps[41]?.getD undef = .bool false := hv 7 41 (by kernel_rfl) (by kernel_rfl)
              have HS := Lib.hid hS
              clear hS hup hdn hold hv hLi
              refine Rgn.op_of_guard (j := 7) (d := 41) (b := false) rfl rfl (by kernel_rfl) hgd ?_
              clear hgd
              go_simp
              exact hK _ _ (fun _ _ _ => rfl) HS.out
            · have q41 : a.tmps[41]?.getD undef = .bool false := hv 7 41 (by kernel_rfl) (by kernel_rfl)
              have q49 : a.tmps[49]?.getD undef = .bool false := hv 15 49 (by kernel_rfl) (by kernel_rfl)
              have HS := Lib.hid hS
              clear hS hup hdn hold hv hLi
              refine Rgn.op_of rfl rfl ?_
              go_simp
              exact hK _ _ (fun _ _ _ => rfl) HS.out
            · have q50 : a.tmps[50]?.getD undef = .bool false := hv 16 50 (by kernel_rfl) (by kernel_rfl)
              have HS := Lib.hid hS
              clear hS hup hdn hold hv hLi
              refine Rgn.op_of rfl rfl ?_
              go_simp
              exact hK _ _ (fun _ _ _ => rfl) HS.out
            · have q7 : a.tmps[7]?.getD undef = .pointer (some ⟨w.heap.size, 0, none⟩) := hold 7 (by kernel_rfl)
              have hgd : a.tmps[51]?.getD undef = .bool false := hv 17 51 (by kernel_rfl) (by kernel_rfl)
              have HS := Lib.hid hS
              clear hS hup hdn hold hv hLi
              refine Rgn.op_of_guard (j := 17) (d := 51) (b := false) rfl rfl (by kernel_rfl) hgd ?_
              clear hgd
              go_simp
              exact hK _ _ (fun _ _ _ => rfl) HS.out
            · have q52 : a.tmps[52]?.getD undef = .pointer (some ⟨w.heap.size, 0, none⟩) := hv 18 52 (by kernel_rfl) (by kernel_rfl)
              have hgd : a.tmps[51]?.getD undef = .bool false := hv 17 51 (by kernel_rfl) (by kernel_rfl)
              have z2 : L 2 = true := hup 2 (by kernel_rfl)
              have z5 : L 5 = true := hup 5 (by kernel_rfl)
              have z19 : L 19 = false := hLi
              have z24 : L 24 = false := hdn 24 rfl (by kernel_rfl)
              have h0 : Tst wc.drew w w.heap.size w.heap.size (w.heap.size + 1) q u xs ys (L 2) (L 5) (L 19) (L 24) g wq := hS
              rw [z2, z5, z19] at h0
              obtain ⟨v1, hT1, hB1⟩ := h0
              have hc := a_list _ _ _ _ _ _ hT1.s
              rw [HN.out] at hc
              have hag : ∀ (g' : Option Addr × Nat × Nat), g'.1 = g.1 → g'.2.1 = g.2.1 → ∀ j, j < 53 → L j = true → ((fun g : Option Addr × Nat × Nat => ([.pointer (some ⟨w.heap.size, 0, none⟩), .int .i64 t, .bool rr, .pointer (some ⟨w.heap.size + 1, 0, none⟩), .int .i64 t, .bool rr, .bool false, .bool false, .pointer (some ⟨w.heap.size, 0, none⟩), .int .i64 n, .pointer (some ⟨w.heap.size + 1, 0, none⟩), .pointer (some ⟨w.heap.size + 1, 0, none⟩), .pointer (some ⟨w.heap.size + 1, 1, none⟩), .slice g.1 n g.2.1, .int .i64 n, .bool false, .bool false, .bool false, .pointer (some ⟨w.heap.size, 0, none⟩), .slice (some ⟨g.2.2, 0, none⟩) n n, .pointer (some ⟨w.heap.size + 1, 0, none⟩), .pointer (some ⟨w.heap.size + 1, 0, none⟩), .pointer (some ⟨w.heap.size + 1, 1, none⟩), .slice g.1 n g.2.1, .bool true, .bool false, .bool false, .bool false, .pointer (some ⟨w.heap.size, 0, none⟩), .int .i64 t, .bool b0, .pointer (some ⟨w.heap.size + 1, 0, none⟩), .pointer (some ⟨w.heap.size + 1, 0, none⟩), .pointer (some ⟨w.heap.size + 1, 1, none⟩), .slice g.1 n g.2.1, .int .i64 t, .bool b0, .bool false, .bool false, .bool false, .pointer (some ⟨w.heap.size, 0, none⟩), .int .i64 t, .int .i64 t1, .bool b1, .pointer (some ⟨w.heap.size + 1, 0, none⟩), .pointer (some ⟨w.heap.size + 1, 0, none⟩), .pointer (some ⟨w.heap.size + 1, 1, none⟩), .slice g.1 n g.2.1, .int .i64 t, .int .i64 t1, .bool b1, .bool false, .bool false] : List Value)) g').getD j undef = ((fun g : Option Addr × Nat × Nat => ([.pointer (some ⟨w.heap.size, 0, none⟩), .int .i64 t, .bool rr, .pointer (some ⟨w.heap.size + 1, 0, none⟩), .int .i64 t, .bool rr, .bool false, .bool false, .pointer (some ⟨w.heap.size, 0, none⟩), .int .i64 n, .pointer (some ⟨w.heap.size + 1, 0, none⟩), .pointer (some ⟨w.heap.size + 1, 0, none⟩), .pointer (some ⟨w.heap.size + 1, 1, none⟩), .slice g.1 n g.2.1, .int .i64 n, .bool false, .bool false, .bool false, .pointer (some ⟨w.heap.size, 0, none⟩), .slice (some ⟨g.2.2, 0, none⟩) n n, .pointer (some ⟨w.heap.size + 1, 0, none⟩), .pointer (some ⟨w.heap.size + 1, 0, none⟩), .pointer (some ⟨w.heap.size + 1, 1, none⟩), .slice g.1 n g.2.1, .bool true, .bool false, .bool false, .bool false, .pointer (some ⟨w.heap.size, 0, none⟩), .int .i64 t, .bool b0, .pointer (some ⟨w.heap.size + 1, 0, none⟩), .pointer (some ⟨w.heap.size + 1, 0, none⟩), .pointer (some ⟨w.heap.size + 1, 1, none⟩), .slice g.1 n g.2.1, .int .i64 t, .bool b0, .bool false, .bool false, .bool false, .pointer (some ⟨w.heap.size, 0, none⟩), .int .i64 t, .int .i64 t1, .bool b1, .pointer (some ⟨w.heap.size + 1, 0, none⟩), .pointer (some ⟨w.heap.size + 1, 0, none⟩), .pointer (some ⟨w.heap.size + 1, 1, none⟩), .slice g.1 n g.2.1, .int .i64 t, .int .i64 t1, .bool b1, .bool false, .bool false] : List Value)) g).getD j undef := by
                intro g' e1 e2 j hj hLj
                have hj' : j = 0 ∨ j = 1 ∨ j = 2 ∨ j = 3 ∨ j = 4 ∨ j = 5 ∨ j = 6 ∨ j = 7 ∨ j = 8 ∨ j = 9 ∨ j = 10 ∨ j = 11 ∨ j = 12 ∨ j = 13 ∨ j = 14 ∨ j = 15 ∨ j = 16 ∨ j = 17 ∨ j = 18 ∨ j = 19 ∨ j = 20 ∨ j = 21 ∨ j = 22 ∨ j = 23 ∨ j = 24 ∨ j = 25 ∨ j = 26 ∨ j = 27 ∨ j = 28 ∨ j = 29 ∨ j = 30 ∨ j = 31 ∨ j = 32 ∨ j = 33 ∨ j = 34 ∨ j = 35 ∨ j = 36 ∨ j = 37 ∨ j = 38 ∨ j = 39 ∨ j = 40 ∨ j = 41 ∨ j = 42 ∨ j = 43 ∨ j = 44 ∨ j = 45 ∨ j = 46 ∨ j = 47 ∨ j = 48 ∨ j = 49 ∨ j = 50 ∨ j = 51 ∨ j = 52 := by omega
                rcases hj' with rfl | rfl | rfl | rfl | rfl | rfl | rfl | rfl | rfl | rfl | rfl | rfl | rfl | rfl | rfl | rfl | rfl | rfl | rfl | rfl | rfl | rfl | rfl | rfl | rfl | rfl | rfl | rfl | rfl | rfl | rfl | rfl | rfl | rfl | rfl | rfl | rfl | rfl | rfl | rfl | rfl | rfl | rfl | rfl | rfl | rfl | rfl | rfl | rfl | rfl | rfl | rfl | rfl
                all_goals first | rfl | (rw [hLi] at hLj; cases hLj) | (show Value.slice g'.1 n g'.2.1 = Value.slice g.1 n g.2.1; rw [e1, e2]) | (rw [hdn _ rfl (by kernel_rfl)] at hLj; cases hLj)
              have HS := Lib.hid hS
              clear hS hup hdn hold hv hLi
              refine Rgn.op_of_guard (j := 17) (d := 51) (b := false) rfl rfl (by kernel_rfl) hgd ?_
              clear hgd
              go_simp
              go_at_call 15
              (with_reducible refine (hc).mono ?_)
              rintro e w5 ⟨y, rfl, hy, hO, hBl⟩
              refine hK (g.1, g.2.1, y) _ (hag _ rfl rfl) ?_
              show Tst wc.drew w w.heap.size w.heap.size (w.heap.size + 1) q u xs ys (Rgn.mark L 19 2) (Rgn.mark L 19 5) (Rgn.mark L 19 19) (Rgn.mark L 19 24) _ _
              rw [Rgn.mark_self, Rgn.mark_ne (show 2 ≠ 19 by decide), Rgn.mark_ne (show 5 ≠ 19 by decide), Rgn.mark_ne (show 24 ≠ 19 by decide), z2, z5, z24]
              refine ⟨⟨v1, hT1.below hBl, hB1.trans (hBl.mono hB1.size)⟩, ?_⟩
              rw [← HN.out] at hO
              exact rdi_own hO
            · have q8 : a.tmps[8]?.getD undef = .pointer (some ⟨w.heap.size + 1, 0, none⟩) := hold 8 (by kernel_rfl)
              have hgd : a.tmps[51]?.getD undef = .bool false := hv 17 51 (by kernel_rfl) (by kernel_rfl)
              have HS := Lib.hid hS
              clear hS hup hdn hold hv hLi
              refine Rgn.op_of_guard (j := 17) (d := 51) (b := false) rfl rfl (by kernel_rfl) hgd ?_
              clear hgd
              go_simp
              exact hK _ _ (fun _ _ _ => rfl) HS.out
            · have q54 : a.tmps[54]?.getD undef = .pointer (some ⟨w.heap.size + 1, 0, none⟩) := hv 20 54 (by kernel_rfl) (by kernel_rfl)
              have hgd : a.tmps[51]?.getD undef = .bool false := hv 17 51 (by kernel_rfl) (by kernel_rfl)
              have HS := Lib.hid hS
              clear hS hup hdn hold hv hLi
              refine Rgn.op_of_guard (j := 17) (d := 51) (b := false) rfl rfl (by kernel_rfl) hgd ?_
              clear hgd
              go_simp
              exact hK _ _ (fun _ _ _ => rfl) HS.out
            · have q55 : a.tmps[55]?.getD undef = .pointer (some ⟨w.heap.size + 1, 0, none⟩) := hv 21 55 (by kernel_rfl) (by kernel_rfl)
              have hgd : a.tmps[51]?.getD undef = .bool false := hv 17 51 (by kernel_rfl) (by kernel_rfl)
              have HS := Lib.hid hS
              clear hS hup hdn hold hv hLi
              refine Rgn.op_of_guard (j := 17) (d := 51) (b := false) rfl rfl (by kernel_rfl) hgd ?_
              clear hgd
              go_simp
              exact hK _ _ (fun _ _ _ => rfl) HS.out
            · have q56 : a.tmps[56]?.getD undef = .pointer (some ⟨w.heap.size + 1, 1, none⟩) := hv 22 56 (by kernel_rfl) (by kernel_rfl)
              have hgd : a.tmps[51]?.getD undef = .bool false := hv 17 51 (by kernel_rfl) (by kernel_rfl)
              have z2 : L 2 = true := hup 2 (by kernel_rfl)
              have z5 : L 5 = true := hup 5 (by kernel_rfl)
              have h0 : Tst wc.drew w w.heap.size w.heap.size (w.heap.size + 1) q u xs ys (L 2) (L 5) (L 19) (L 24) g wq := hS
              rw [z2, z5] at h0
              have hc1 := tst_cell h0
              rw [HN.out] at hc1
              have HS := Lib.hid hS
              clear hS hup hdn hold hv hLi
              refine Rgn.op_of_guard (j := 17) (d := 51) (b := false) rfl rfl (by kernel_rfl) hgd ?_
              clear hgd
              go_simp
              exact hK _ _ (fun _ _ _ => rfl) HS.out
            · have q53 : a.tmps[53]?.getD undef = .slice (some ⟨g.2.2, 0, none⟩) n n := hv 19 53 (by kernel_rfl) (by kernel_rfl)
              have q57 : a.tmps[57]?.getD undef = .slice g.1 n g.2.1 := hv 23 57 (by kernel_rfl) (by kernel_rfl)
              have hgd : a.tmps[51]?.getD undef = .bool false := hv 17 51 (by kernel_rfl) (by kernel_rfl)
              have z2 : L 2 = true := hup 2 (by kernel_rfl)
              have z5 : L 5 = true := hup 5 (by kernel_rfl)
              have z19 : L 19 = true := hup 19 (by kernel_rfl)
              have z24 : L 24 = false := hLi
              have h0 : Tst wc.drew w w.heap.size w.heap.size (w.heap.size + 1) q u xs ys (L 2) (L 5) (L 19) (L 24) g wq := hS
              rw [z2, z5, z19, z24] at h0
              obtain ⟨⟨v1, hT1, hB1⟩, hRd⟩ := h0
              have hc := two_ints hT1 hRd
              rw [HN.out] at hc
              have HS := Lib.hid hS
              clear hS hup hdn hold hv hLi
              refine Rgn.op_of_guard (j := 17) (d := 51) (b := false) rfl rfl (by kernel_rfl) hgd ?_
              clear hgd
              go_simp
              go_at_call 14
              (with_reducible refine (hc).mono ?_)
              rintro e w5 ⟨rfl, hT2, hB2⟩
              refine hK g _ (fun _ _ _ => rfl) ?_
              rw [← HN.out] at hT2
              show Tst wc.drew w w.heap.size w.heap.size (w.heap.size + 1) q u xs ys (Rgn.mark L 24 2) (Rgn.mark L 24 5) (Rgn.mark L 24 19) (Rgn.mark L 24 24) _ _
              rw [Rgn.mark_self, Rgn.mark_ne (show 2 ≠ 24 by decide), Rgn.mark_ne (show 5 ≠ 24 by decide), Rgn.mark_ne (show 19 ≠ 24 by decide), z2, z5, z19]
              exact ⟨v1, hT2, hB1.trans (hB2.mono hB1.size)⟩
            · have q58 : a.tmps[58]?.getD undef = .bool true := hv 24 58 (by kernel_rfl) (by kernel_rfl)
              have hgd : a.tmps[51]?.getD undef = .bool false := hv 17 51 (by kernel_rfl) (by kernel_rfl)
              have HS := Lib.hid hS
              clear hS hup hdn hold hv hLi
              refine Rgn.op_of_guard (j := 17) (d := 51) (b := false) rfl rfl (by kernel_rfl) hgd ?_
              clear hgd
              go_simp
              exact hK _ _ (fun _ _ _ => rfl) HS.out
            · have q51 : a.tmps[51]?.getD undef = .bool false := hv 17 51 (by kernel_rfl) (by kernel_rfl)
              have q59 : a.tmps[59]?.getD undef = .bool false := hv 25 59 (by kernel_rfl) (by kernel_rfl)
              have HS := Lib.hid hS
              clear hS hup hdn hold hv hLi
              refine Rgn.op_of rfl rfl ?_
              go_simp
              exact hK _ _ (fun _ _ _ => rfl) HS.out
            · have q60 : a.tmps[60]?.getD undef = .bool false := hv 26 60 (by kernel_rfl) (by kernel_rfl)
              have HS := Lib.hid hS
              clear hS hup hdn hold hv hLi
              refine Rgn.op_of rfl rfl ?_
              go_simp
              exact hK _ _ (fun _ _ _ => rfl) HS.out
            · have q7 : a.tmps[7]?.getD undef = .pointer (some ⟨w.heap.size, 0, none⟩) := hold 7 (by kernel_rfl)
              have hgd : a.tmps[61]?.getD undef = .bool false := hv 27 61 (by kernel_rfl) (by kernel_rfl)
              have HS := Lib.hid hS
              clear hS hup hdn hold hv hLi
              refine Rgn.op_of_guard (j := 27) (d := 61) (b := false) rfl rfl (by kernel_rfl) hgd ?_
              clear hgd
              go_simp
              exact hK _ _ (fun _ _ _ => rfl) HS.out
            · have q10 : a.tmps[10]?.getD undef = .int .i64 t := hold 10 (by kernel_rfl)
              have hgd : a.tmps[61]?.getD undef = .bool false := hv 27 61 (by kernel_rfl) (by kernel_rfl)
              have HS := Lib.hid hS
              clear hS hup hdn hold hv hLi
              refine Rgn.op_of_guard (j := 27) (d := 61) (b := false) rfl rfl (by kernel_rfl) hgd ?_
              clear hgd
              go_simp
              exact hK _ _ (fun _ _ _ => rfl) HS.out
            · have q62 : a.tmps[62]?.getD undef = .pointer (some ⟨w.heap.size, 0, none⟩) := hv 28 62 (by kernel_rfl) (by kernel_rfl)
              have q63 : a.tmps[63]?.getD undef = .int .i64 t := hv 29 63 (by kernel_rfl) (by kernel_rfl)
              have hgd : a.tmps[61]?.getD undef = .bool false := hv 27 61 (by kernel_rfl) (by kernel_rfl)
              have z2 : L 2 = true := hup 2 (by kernel_rfl)
              have z5 : L 5 = true := hup 5 (by kernel_rfl)
              have z19 : L 19 = true := hup 19 (by kernel_rfl)
              have z24 : L 24 = true := hup 24 (by kernel_rfl)
              have h0 : Tst wc.drew w w.heap.size w.heap.size (w.heap.size + 1) q u xs ys (L 2) (L 5) (L 19) (L 24) g wq := hS
              rw [z2, z5, z19, z24] at h0
              obtain ⟨v1, hT1, hB1⟩ := h0
              have hc := a_has _ _ _ _ _ _ t hT1.s
              rw [HB0.out] at hc
              have HS := Lib.hid hS
              clear hS hup hdn hold hv hLi
              refine Rgn.op_of_guard (j := 27) (d := 61) (b := false) rfl rfl (by kernel_rfl) hgd ?_
              clear hgd
              go_simp
              go_at_call 16
              (with_reducible refine (hc).mono ?_)
              rintro e w5 ⟨rfl, rfl⟩
              exact hK _ _ (fun _ _ _ => rfl) HS.out
            · have q8 : a.tmps[8]?.getD undef = .pointer (some ⟨w.heap.size + 1, 0, none⟩) := hold 8 (by kernel_rfl)
              have hgd : a.tmps[61]?.getD undef = .bool false := hv 27 61 (by kernel_rfl) (by kernel_rfl)
              have HS := Lib.hid hS
              clear hS hup hdn hold hv hLi
              refine Rgn.op_of_guard (j := 27) (d := 61) (b := false) rfl rfl (by kernel_rfl) hgd ?_
              clear hgd
              go_simp
              exact hK _ _ (fun _ _ _ => rfl) HS.out
            · have q65 : a.tmps[65]?.getD undef = .pointer (some ⟨w.heap.size + 1, 0, none⟩) := hv 31 65 (by kernel_rfl) (by kernel_rfl)
              have hgd : a.tmps[61]?.getD undef = .bool false := hv 27 61 (by kernel_rfl) (by kernel_rfl)
              have HS := Lib.hid hS
              clear hS hup hdn hold hv hLi
              refine Rgn.op_of_guard (j := 27) (d := 61) (b := false) rfl rfl (by kernel_rfl) hgd ?_
              clear hgd
              go_simp
              exact hK _ _ (fun _ _ _ => rfl) HS.out
            · have q66 : a.tmps[66]?.getD undef = .pointer (some ⟨w.heap.size + 1, 0, none⟩) := hv 32 66 (by kernel_rfl) (by kernel_rfl)
              have hgd : a.tmps[61]?.getD undef = .bool false := hv 27 61 (by kernel_rfl) (by kernel_rfl)
              have HS := Lib.hid hS
              clear hS hup hdn hold hv hLi
              refine Rgn.op_of_guard (j := 27) (d := 61) (b := false) rfl rfl (by kernel_rfl) hgd ?_
              clear hgd
              go_simp
              exact hK _ _ (fun _ _ _ => rfl) HS.out
            · have q67 : a.tmps[67]?.getD undef = .pointer (some ⟨w.heap.size + 1, 1, none⟩) := hv 33 67 (by kernel_rfl) (by kernel_rfl)
              have hgd : a.tmps[61]?.getD undef = .bool false := hv 27 61 (by kernel_rfl) (by kernel_rfl)
              have z2 : L 2 = true := hup 2 (by kernel_rfl)
              have z5 : L 5 = true := hup 5 (by kernel_rfl)
              have h0 : Tst wc.drew w w.heap.size w.heap.size (w.heap.size + 1) q u xs ys (L 2) (L 5) (L 19) (L 24) g wq := hS
              rw [z2, z5] at h0
              have hc1 := tst_cell h0
              rw [HN.out] at hc1
              have HS := Lib.hid hS
              clear hS hup hdn hold hv hLi
              refine Rgn.op_of_guard (j := 27) (d := 61) (b := false) rfl rfl (by kernel_rfl) hgd ?_
              clear hgd
              go_simp
              exact hK _ _ (fun _ _ _ => rfl) HS.out
            · have q10 : a.tmps[10]?.getD undef = .int .i64 t := hold 10 (by kernel_rfl)
              have hgd : a.tmps[61]?.getD undef = .bool false := hv 27 61 (by kernel_rfl) (by kernel_rfl)
              have HS := Lib.hid hS
              clear hS hup hdn hold hv hLi
              refine Rgn.op_of_guard (j := 27) (d := 61) (b := false) rfl rfl (by kernel_rfl) hgd ?_
              clear hgd
              go_simp
              exact hK _ _ (fun _ _ _ => rfl) HS.out
            · have q68 : a.tmps[68]?.getD undef = .slice g.1 n g.2.1 := hv 34 68 (by kernel_rfl) (by kernel_rfl)
              have q69 : a.tmps[69]?.getD undef = .int .i64 t := hv 35 69 (by kernel_rfl) (by kernel_rfl)
              have hgd : a.tmps[61]?.getD undef = .bool false := hv 27 61 (by kernel_rfl) (by kernel_rfl)
              have z2 : L 2 = true := hup 2 (by kernel_rfl)
              have z5 : L 5 = true := hup 5 (by kernel_rfl)
              have z19 : L 19 = true := hup 19 (by kernel_rfl)
              have z24 : L 24 = true := hup 24 (by kernel_rfl)
              have h0 : Tst wc.drew w w.heap.size w.heap.size (w.heap.size + 1) q u xs ys (L 2) (L 5) (L 19) (L 24) g wq := hS
              rw [z2, z5, z19, z24] at h0
              obtain ⟨v1, hT1, hB1⟩ := h0
              have hc := k_in _ _ _ t hT1.t.rd (by have := hT1.s.len; omega)
              rw [HB0.out, HN.out] at hc
              have HS := Lib.hid hS
              clear hS hup hdn hold hv hLi
              refine Rgn.op_of_guard (j := 27) (d := 61) (b := false) rfl rfl (by kernel_rfl) hgd ?_
              clear hgd
              go_simp
              go_at_call 17
              (with_reducible refine (hc).mono ?_)
              rintro e w5 ⟨rfl, rfl⟩
              exact hK _ _ (fun _ _ _ => rfl) HS.out
            · have q64 : a.tmps[64]?.getD undef = .bool b0 := hv 30 64 (by kernel_rfl) (by kernel_rfl)
              have q70 : a.tmps[70]?.getD undef = .bool b0 := hv 36 70 (by kernel_rfl) (by kernel_rfl)
              have hgd : a.tmps[61]?.getD undef = .bool false := hv 27 61 (by kernel_rfl) (by kernel_rfl)
              have HS := Lib.hid hS
              clear hS hup hdn hold hv hLi
              refine Rgn.op_of_guard (j := 27) (d := 61) (b := false) rfl rfl (by kernel_rfl) hgd ?_
              clear hgd
              go_simp
              exact hK _ _ (fun _ _ _ => rfl) HS.out
            · have q61 : a.tmps[61]?.getD undef = .bool false := hv 27 61 (by kernel_rfl) (by kernel_rfl)
              have q71 : a.tmps[71]?.getD undef = .bool false := hv 37 71 (by kernel_rfl) (by kernel_rfl)
              have HS := Lib.hid hS
              clear hS hup hdn hold hv hLi
              refine Rgn.op_of rfl rfl ?_
              go_simp
              exact hK _ _ (fun _ _ _ => rfl) HS.out
            · have q72 : a.tmps[72]?.getD undef = .bool false := hv 38 72 (by kernel_rfl) (by kernel_rfl)
              have HS := Lib.hid hS
              clear hS hup hdn hold hv hLi
              refine Rgn.op_of rfl rfl ?_
              go_simp
              exact hK _ _ (fun _ _ _ => rfl) HS.out
            · have q7 : a.tmps[7]?.getD undef = .pointer (some ⟨w.heap.size, 0, none⟩) := hold 7 (by kernel_rfl)
              have hgd : a.tmps[73]?.getD undef = .bool false := hv 39 73 (by kernel_rfl) (by kernel_rfl)
              have HS := Lib.hid hS
              clear hS hup hdn hold hv hLi
              refine Rgn.op_of_guard (j := 39) (d := 73) (b := false) rfl rfl (by kernel_rfl) hgd ?_
              clear hgd
              go_simp
              exact hK _ _ (fun _ _ _ => rfl) HS.out
            · have q10 : a.tmps[10]?.getD undef = .int .i64 t := hold 10 (by kernel_rfl)
              have hgd : a.tmps[73]?.getD undef = .bool false := hv 39 73 (by kernel_rfl) (by kernel_rfl)
              have HS := Lib.hid hS
              clear hS hup hdn hold hv hLi
              refine Rgn.op_of_guard (j := 39) (d := 73) (b := false) rfl rfl (by kernel_rfl) hgd ?_
              clear hgd
              go_simp
              exact hK _ _ (fun _ _ _ => rfl) HS.out
            · have q75 : a.tmps[75]?.getD undef = .int .i64 t := hv 41 75 (by kernel_rfl) (by kernel_rfl)
              have hgd : a.tmps[73]?.getD undef = .bool false := hv 39 73 (by kernel_rfl) (by kernel_rfl)
              have HS := Lib.hid hS
              clear hS hup hdn hold hv hLi
              refine Rgn.op_of_guard (j := 39) (d := 73) (b := false) rfl rfl (by kernel_rfl) hgd ?_
              clear hgd
              go_simp
              exact hK _ _ (fun _ _ _ => rfl) HS.out
            · have q74 : a.tmps[74]?.getD undef = .pointer (some ⟨w.heap.size, 0, none⟩) := hv 40 74 (by kernel_rfl) (by kernel_rfl)
              have q76 : a.tmps[76]?.getD undef = .int .i64 t1 := hv 42 76 (by kernel_rfl) (by kernel_rfl)
              have hgd : a.tmps[73]?.getD undef = .bool false := hv 39 73 (by kernel_rfl) (by kernel_rfl)
              have z2 : L 2 = true := hup 2 (by kernel_rfl)
              have z5 : L 5 = true := hup 5 (by kernel_rfl)
              have z19 : L 19 = true := hup 19 (by kernel_rfl)
              have z24 : L 24 = true := hup 24 (by kernel_rfl)
              have h0 : Tst wc.drew w w.heap.size w.heap.size (w.heap.size + 1) q u xs ys (L 2) (L 5) (L 19) (L 24) g wq := hS
              rw [z2, z5, z19, z24] at h0
              obtain ⟨v1, hT1, hB1⟩ := h0
              have hc := a_has _ _ _ _ _ _ t1 hT1.s
              rw [HB1.out] at hc
              have HS := Lib.hid hS
              clear hS hup hdn hold hv hLi
              refine Rgn.op_of_guard (j := 39) (d := 73) (b := false) rfl rfl (by kernel_rfl) hgd ?_
              clear hgd
              go_simp
              go_at_call 16
              (with_reducible refine (hc).mono ?_)
              rintro e w5 ⟨rfl, rfl⟩
              exact hK _ _ (fun _ _ _ => rfl) HS.out
            · have q8 : a.tmps[8]?.getD undef = .pointer (some ⟨w.heap.size + 1, 0, none⟩) := hold 8 (by kernel_rfl)
              have hgd : a.tmps[73]?.getD undef = .bool false := hv 39 73 (by kernel_rfl) (by kernel_rfl)
              have HS := Lib.hid hS
              clear hS hup hdn hold hv hLi
              refine Rgn.op_of_guard (j := 39) (d := 73) (b := false) rfl rfl (by kernel_rfl) hgd ?_
              clear hgd
              go_simp
              exact hK _ _ (fun _ _ _ => rfl) HS.out
            · have q78 : a.tmps[78]?.getD undef = .pointer (some ⟨w.heap.size + 1, 0, none⟩) := hv 44 78 (by kernel_rfl) (by kernel_rfl)
              have hgd : a.tmps[73]?.getD undef = .bool false := hv 39 73 (by kernel_rfl) (by kernel_rfl)
              have HS := Lib.hid hS
              clear hS hup hdn hold hv hLi
              refine Rgn.op_of_guard (j := 39) (d := 73) (b := false) rfl rfl (by kernel_rfl) hgd ?_
              clear hgd
              go_simp
              exact hK _ _ (fun _ _ _ => rfl) HS.out
            · have q79 : a.tmps[79]?.getD undef = .pointer (some ⟨w.heap.size + 1, 0, none⟩) := hv 45 79 (by kernel_rfl) (by kernel_rfl)
              have hgd : a.tmps[73]?.getD undef = .bool false := hv 39 73 (by kernel_rfl) (by kernel_rfl)
              have HS := Lib.hid hS
              clear hS hup hdn hold hv hLi
              refine Rgn.op_of_guard (j := 39) (d := 73) (b := false) rfl rfl (by kernel_rfl) hgd ?_
              clear hgd
              go_simp
              exact hK _ _ (fun _ _ _ => rfl) HS.out
            · have q80 : a.tmps[80]?.getD undef = .pointer (some ⟨w.heap.size + 1, 1, none⟩) := hv 46 80 (by kernel_rfl) (by kernel_rfl)
              have hgd : a.tmps[73]?.getD undef = .bool false := hv 39 73 (by kernel_rfl) (by kernel_rfl)
              have z2 : L 2 = true := hup 2 (by kernel_rfl)
              have z5 : L 5 = true := hup 5 (by kernel_rfl)
              have h0 : Tst wc.drew w w.heap.size w.heap.size (w.heap.size + 1) q u xs ys (L 2) (L 5) (L 19) (L 24) g wq := hS
              rw [z2, z5] at h0
              have hc1 := tst_cell h0
              rw [HN.out] at hc1
              have HS := Lib.hid hS
              clear hS hup hdn hold hv hLi
              refine Rgn.op_of_guard (j := 39) (d := 73) (b := false) rfl rfl (by kernel_rfl) hgd ?_
              clear hgd
              go_simp
              exact hK _ _ (fun _ _ _ => rfl) HS.out
            · have q10 : a.tmps[10]?.getD undef = .int .i64 t := hold 10 (by kernel_rfl)
              have hgd : a.tmps[73]?.getD undef = .bool false := hv 39 73 (by kernel_rfl) (by kernel_rfl)
              have HS := Lib.hid hS
              clear hS hup hdn hold hv hLi
              refine Rgn.op_of_guard (j := 39) (d := 73) (b := false) rfl rfl (by kernel_rfl) hgd ?_
              clear hgd
              go_simp
              exact hK _ _ (fun _ _ _ => rfl) HS.out
            · have q82 : a.tmps[82]?.getD undef = .int .i64 t := hv 48 82 (by kernel_rfl) (by kernel_rfl)
              have hgd : a.tmps[73]?.getD undef = .bool false := hv 39 73 (by kernel_rfl) (by kernel_rfl)
              have HS := Lib.hid hS
              clear hS hup hdn hold hv hLi
              refine Rgn.op_of_guard (j := 39) (d := 73) (b := false) rfl rfl (by kernel_rfl) hgd ?_
              clear hgd
              go_simp
              exact hK _ _ (fun _ _ _ => rfl) HS.out
            · have q81 : a.tmps[81]?.getD undef = .slice g.1 n g.2.1 := hv 47 81 (by kernel_rfl) (by kernel_rfl)
              have q83 : a.tmps[83]?.getD undef = .int .i64 t1 := hv 49 83 (by kernel_rfl) (by kernel_rfl)
              have hgd : a.tmps[73]?.getD undef = .bool false := hv 39 73 (by kernel_rfl) (by kernel_rfl)
              have z2 : L 2 = true := hup 2 (by kernel_rfl)
              have z5 : L 5 = true := hup 5 (by kernel_rfl)
              have z19 : L 19 = true := hup 19 (by kernel_rfl)
              have z24 : L 24 = true := hup 24 (by kernel_rfl)
              have h0 : Tst wc.drew w w.heap.size w.heap.size (w.heap.size + 1) q u xs ys (L 2) (L 5) (L 19) (L 24) g wq := hS
              rw [z2, z5, z19, z24] at h0
              obtain ⟨v1, hT1, hB1⟩ := h0
              have hc := k_in _ _ _ t1 hT1.t.rd (by have := hT1.s.len; omega)
              rw [HB1.out, HN.out] at hc
              have HS := Lib.hid hS
              clear hS hup hdn hold hv hLi
              refine Rgn.op_of_guard (j := 39) (d := 73) (b := false) rfl rfl (by kernel_rfl) hgd ?_
              clear hgd
              go_simp
              go_at_call 17
              (with_reducible refine (hc).mono ?_)
              rintro e w5 ⟨rfl, rfl⟩
              exact hK _ _ (fun _ _ _ => rfl) HS.out
            · have q77 : a.tmps[77]?.getD undef = .bool b1 := hv 43 77 (by kernel_rfl) (by kernel_rfl)
              have q84 : a.tmps[84]?.getD undef = .bool b1 := hv 50 84 (by kernel_rfl) (by kernel_rfl)
              have hgd : a.tmps[73]?.getD undef = .bool false := hv 39 73 (by kernel_rfl) (by kernel_rfl)
              have HS := Lib.hid hS
              clear hS hup hdn hold hv hLi
              refine Rgn.op_of_guard (j := 39) (d := 73) (b := false) rfl rfl (by kernel_rfl) hgd ?_
              clear hgd
              go_simp
              exact hK _ _ (fun _ _ _ => rfl) HS.out
            · have q73 : a.tmps[73]?.getD undef = .bool false := hv 39 73 (by kernel_rfl) (by kernel_rfl)
              have q85 : a.tmps[85]?.getD undef = .bool false := hv 51 85 (by kernel_rfl) (by kernel_rfl)
              have HS := Lib.hid hS
              clear hS hup hdn hold hv hLi
              refine Rgn.op_of rfl rfl ?_
              go_simp
              exact hK _ _ (fun _ _ _ => rfl) HS.out
          · intro g L wq hall hS
            have h0 : Tst wc.drew w w.heap.size w.heap.size (w.heap.size + 1) q u xs ys (L 2) (L 5) (L 19) (L 24) g wq := hS
            rw [hall 2 rfl, hall 5 rfl, hall 19 rfl, hall 24 rfl] at h0
            obtain ⟨v1, hT1, hB1⟩ := h0
            have HT3 := Lib.hid hT1
            have HB9 := Lib.hid hB1
            clear hT1 hB1 hS hall
            simp only [Rgn.putAll, Act.put]
            go_simp
            go_at_K
            go_wp2_with fail
            go_roundw
            case rel => exact ⟨k + 1, _, _, ys, by omega, by go_num, HT3.out, HB9.out⟩
            case measure => simp [intOf]; omega
      · go_wp2_with fail
        refine (RsC.l_awake _).mono ?_
        rintro e w6 ⟨rfl, hb6⟩
        have HB6 := Lib.hid (below_trans2 HB.out hb6)
        clear hb6
        go_wp2
        go_ret
        exact ⟨rfl, .of_below HB6.out⟩

/-! The row's step. -/
set_option maxRecDepth 100000 in
theorem lifted (os : Os) (started : os.Started) (H : Type) (enc : TypeId × Value → H) :
    ReturnsInHanded {} Try.checked os 3 .any (Rows.readsetFollowsSpec.pre6 enc Try.prog Try.f3 Rows.readsetFollowsRow.domain false) (Rows.readsetFollowsSpec.post enc Try.prog Try.f3 false true false false) := by
  refine returnsInHanded_of_change (C := Try.checked) own started (by kernel_rfl) Try.func3
    (ChangeSpec.witness6 (enc := enc) (C := Try.checked) false ⟨#[], #[.int .i64 0, .slice none 0 0, .bool false], []⟩ 8 (by kernel_rfl) (by kernel_rfl) (by kernel_rfl) (by kernel_rfl)) ?_
  intro W base args ds gs before hval0 hW hcnd _
  have hval : ∀ (j : Nat) t v, Try.f3.params[j]? = some t → args[j]? = some v → Value.okWide Try.prog W .any base t v := hval0
  have hW' := hW
  obtain ⟨p, q, hA0, hV, rfl, hfz, hnd⟩ := hW
  have hA : DataW.TrodAll enc Try.prog W 0 (fun _ => true) true Try.f3.params.toList args.toList ds p := hA0
  rw [Try.params3] at hA hval
  obtain ⟨v0, vs0, d0, ds0, p0, q0, hargs, rfl, rfl, h0, r0⟩ := trodAll_cons hA
  obtain ⟨v1, vs1, d1, ds1, p1, q1, rfl, rfl, rfl, h1, r1⟩ := trodAll_cons r0
  obtain ⟨v2, vs2, d2, ds2, p2, q2, rfl, rfl, rfl, h2, r2⟩ := trodAll_cons r1
  obtain ⟨rfl, rfl, rfl⟩ := trodAll_nil r2
  obtain rfl : args = #[v0, v1, v2] := by cases args; simp_all
  obtain ⟨rfl, rfl⟩ := trodVars_none hV
  have hk : ∀ W', Kept W W' → Rows.readsetFollowsSpec.post enc Try.prog Try.f3 false true false false W #[v0, v1, v2] (.bool true) W' := fun W' hb =>
    post_law laidOut readable rfl Try.underlying4 rfl hW' rfl hb
  clear hA0 hval0 hA hW'
  obtain ⟨a0, rfl, rfl, rfl, w0⟩ := open_int Try.underlying3 (hval 0 3 v0 rfl rfl) h0
  obtain ⟨A1, n1, c1, z1, rfl, l1, m1, s1⟩ := open_slice Try.underlying22 Try.underlying3 cells3 (hval 1 22 v1 rfl rfl) h1
  obtain ⟨a2, rfl, rfl, rfl⟩ := open_bool Try.underlying4 (hval 2 4 v2 rfl rfl) h2
  refine (walk W a0 w0 A1 n1 c1 z1 l1 m1 s1 a2).mono fun e W' ⟨he, hg⟩ => ?_
  subst he
  exact ⟨_, rfl, hk W' hg⟩

theorem over : Rows.readsetFollowsRow.holds Try.pinned (OpenSpec.ofChange Rows.readsetFollowsSpec) :=
  OpenClaim.holds_of_wide 3 Try.f3 rfl rfl rfl rfl rfl rfl rfl ⟨rfl, rfl, rfl, rfl, rfl⟩ rfl rfl rfl rfl rfl (by kernel_rfl) Try.func3 (by kernel_rfl)
    (of_decide_eq_true (by kernel_rfl)) (by unfold Func.isWrapper; first | (rw [if_pos (by decide +kernel)]; kernel_rfl) | (rw [if_neg (by decide +kernel)]; exact ⟨rfl, rfl⟩))
    (fun os started H enc _ => lifted os started H enc)

/-- The statement. -/
theorem proved : Rows.ReadsetFollowsSaid :=
  over
#print axioms proved
end Go.Proofs.Ytcohfgenpbhfeaa.readsetFollows
