/-
  Contracts of package writer and of the reference's stores, step by step, over both machines' cells and the machines' objects.
-/
import Derived.Test.YtfondhajedkmbaaClnA
import Derived.Deep.RegionLaw
import Derived.Deep.RegionHeld3
import Derived.Deep.Cut
import Derived.Deep.DeepCutAuto
import Derived.Deep.CutBlock
import Derived.BigQuiet
import Derived.Deep.QuietTactic
namespace Go.Proofs.Ytfondhajedkmbaa.WrA
open Go.ChangeShapes Go.WideShapes Go.ChangeAt Go.RowKit
open PlainT BlkW LayS LayA CelS CelM CelP CelV CelN CelO CelF LabD LabR LabP LabS CelLo RsA ObjA ClnA
set_option linter.unusedVariables false
set_option maxHeartbeats 2000000
set_option maxRecDepth 100000

abbrev TWr : TypeId := 111
abbrev TQs : TypeId := 74
/-- A slice cut behind its first elements. -/
theorem cut_run {T ts : TypeId} (hu : Try.prog.underlying ts = some (.slice T)) (hz : ∀ wx : World, (sizeOf (Try.prog.elem ts)).run Try.prog wx = .ok 1 wx) (p : Option Addr) (n c m : Nat) (h2 : m ≤ c) (wx : World) : (Instr.slice ts (.slice p n c) none (some (.int .i64 m)) none).run Try.prog wx = .ok (.slice p m c) wx := by
  have he : Try.prog.elem ts = T := by simp [Program.elem, hu]
  rw [run_slice_h (P := Try.prog) (w := wx) ts p n c (by rw [he]; exact hu) .i64 m (by omega) (by omega), hz wx]
  simp only [Result.andThen, sliced]
  cases p <;> simp [Addr.add]
theorem rds_take {K : IntKind} {w : World} {p : Option Addr} {n c m : Nat} {xs : List Int} (h : RdS K w (.slice p n c) xs) (hm : m ≤ n) : RdS K w (.slice p m c) (xs.take m) := by
  obtain ⟨p2, c2, e, h1, h2, hc⟩ := h
  injection e with e1 e2 e3
  subst e1 e2 e3
  refine ⟨p, c, by rw [List.length_take, Nat.min_eq_left hm], by rw [List.length_take]; omega, h2, fun j x hj => hc j x ?_⟩
  rw [List.getElem?_take] at hj
  split at hj
  · exact hj
  · cases hj

theorem wr_left {w : World} {g n c : Nat} {p : Option Addr} {v2 : Value} (M : Mem w g TWr #[.slice p n c, v2]) : Calls Try.prog 36 #[.pointer (some ⟨g, 0, none⟩)] w fun e w' => e = .returned (.int .i64 n) ∧ w = w' := by
  have c0 := M.cell 0
  simp at c0
  clear M
  go_enter Try.func36, Try.ntmps36
  go_wp2
  go_ret
  exact ⟨rfl, rfl⟩
theorem wr_done {w : World} {g n c : Nat} {p : Option Addr} {v2 : Value} (M : Mem w g TWr #[.slice p n c, v2]) {D : Bool} (hd : decide (n = 0) = D) : Calls Try.prog 34 #[.pointer (some ⟨g, 0, none⟩)] w fun e w' => e = .returned (.bool D) ∧ w = w' := by
  have hl := wr_left M
  have hD : ((n : Int) == 0) = D := by
    rw [← hd]
    by_cases h : n = 0
    · subst h; rfl
    · rw [decide_eq_false h]
      rw [beq_eq_false_iff_ne]
      omega
  clear M hd
  go_enter Try.func34, Try.ntmps34
  go_wp2_with (go_at_call 36; (with_reducible refine hl.mono ?_); rintro e w1 ⟨rfl, rfl⟩)
  go_ret
  exact ⟨rfl, rfl⟩
theorem wr_new {w0 w : World} {lo hi b rb : Nat} {q : Cfg} {A B : Int → List Int} {X : List Ob} (h : Lo w0 lo hi b rb q A B X w) (p1 p2 : Option Addr) (n1 n2 cap1 cap2 m : Nat) (xs ys : List Int) (hr1 : RdS .i64 w (.slice p1 n1 cap1) xs) (hr2 : RdS .u64 w (.slice p2 n2 cap2) ys) (hm : min n1 n2 = m) (hl : m ≤ 100000) : Calls Try.prog 31 #[.slice p1 n1 cap1, .slice p2 n2 cap2] w fun e w' => ∃ g A1 c1 A2 c2, e = .returned (.pointer (some ⟨g, 0, none⟩)) ∧ Lo w0 lo hi b rb q A B (X ++ [bx g TWr #[.slice A1 m c1, .slice A2 m c2], rd .i64 (.slice A1 m c1) (xs.take m), rd .u64 (.slice A2 m c2) (ys.take m)]) w' := by
  have L0 := Lib.hid h
  have HR1 := Lib.hid (rds_take (m := m) hr1 (by omega))
  have HR2 := Lib.hid (rds_take (m := m) hr2 (by omega))
  have hn1 : xs.length = n1 ∧ n1 ≤ cap1 := by
    obtain ⟨p, c, e, h1, _⟩ := hr1
    injection e with e1 e2 e3
    subst e1 e2 e3
    exact ⟨rfl, h1⟩
  have hn2 : ys.length = n2 ∧ n2 ≤ cap2 := by
    obtain ⟨p, c, e, h1, _⟩ := hr2
    injection e with e1 e2 e3
    subst e1 e2 e3
    exact ⟨rfl, h1⟩
  have hx : Hid ((xs.take m).length = m) := Lib.hid (by rw [List.length_take]; omega)
  have hy : Hid ((ys.take m).length = m) := Lib.hid (by rw [List.length_take]; omega)
  obtain ⟨xt, hxt⟩ : ∃ xt, xs.take m = xt := ⟨_, rfl⟩
  obtain ⟨yt, hyt⟩ : ∃ yt, ys.take m = yt := ⟨_, rfl⟩
  rw [hxt] at HR1 hx ⊢
  rw [hyt] at HR2 hy ⊢
  have hs1 := cut_run (ts := 47) Try.underlying47 (fun wx => by kernel_rfl) p1 n1 cap1 m (by omega)
  have hs2 := cut_run (ts := 37) Try.underlying37 (fun wx => by kernel_rfl) p2 n2 cap2 m (by omega)
  have hmin : (if n2 < n1 then (n2 : Int) else (n1 : Int)) = (m : Int) := by split <;> omega
  clear h hr1 hr2 hn1 hn2 hm hxt hyt
  go_enter Try.func31, Try.ntmps31
  go_upto_region 2 with (fail)
  have hc1 := c_int w.drew (.slice p1 m cap1) xt HR1.out (by rw [hx.out]; exact hl)
  have hc2 : ∀ w1, Below w.drew.heap.size w.drew w1 → Calls _ _ _ _ _ := fun w1 hb => c_word w1 (.slice p2 m cap2) yt (rds_below (w := w.drew) HR2.out hb) (by rw [hy.out]; exact hl)
  rw [hx.out] at hc1
  simp only [hy.out] at hc2
  go_region_held3 (fun W : World => True) (first | trivial) (first
    | (go_at_call 64; (with_reducible refine hc1.mono ?_); rintro e w1 ⟨A1, c1, rfl, ho1, hb1⟩; have hc2 := hc2 _ hb1)
    | (go_at_call 54; (with_reducible refine hc2.mono ?_); rintro e w2 ⟨A2, c2, rfl, ho2, hb2⟩))
  have hi1 : RdR .i64 w1 (.slice A1 m c1) xt := by
    have := hx.out
    exact rdr_own (T := TI) (B := w.drew.heap.size) (by rw [this]; exact ho1)
  have hi2 : RdR .u64 w2 (.slice A2 m c2) yt := by
    have := hy.out
    exact rdr_own (T := TU) (B := w1.heap.size) (by rw [this]; exact ho2)
  have L2 := Lib.hid (Lo.addR (rs := []) (by rw [List.append_nil]; exact L0.out.drew) hb1 (o := rd .i64 (.slice A1 m c1) xt) hi1 fun x hx => (World.ownsRow.lt ho1 x (blk_mem hx)).1)
  have L3 := Lib.hid (Lo.addR (rs := [rd .i64 (.slice A1 m c1) xt]) L2.out hb2 (o := rd .u64 (.slice A2 m c2) yt) hi2 fun x hx => (World.ownsRow.lt ho2 x (blk_mem hx)).1)
  clear ho1 hb1 ho2 hb2 hc1 hc2 L0 L2 HR1 HR2 hs1 hs2 hi1 hi2
  have L4 := Lib.hid (L3.out.newR TWr #[.slice A1 m c1, .slice A2 m c2])
  go_wp2
  go_ret
  refine ⟨_, A1, c1, A2, c2, rfl, L4.out.perm ?_⟩
  refine List.Perm.append_left _ ?_
  exact (List.perm_append_comm (l₁ := [rd .i64 (.slice A1 m c1) xt, rd .u64 (.slice A2 m c2) yt]) (l₂ := [bx w2.heap.size TWr #[.slice A1 m c1, .slice A2 m c2]]))

theorem wr_over {w0 w : World} {lo hi b rb : Nat} {q : Cfg} {A B : Int → List Int} {X : List Ob} {g n c : Nat} {p : Option Addr} {v2 : Value} (hd : decide (n = 0) = true) (h : Lo w0 lo hi b rb q A B (X ++ [bx g TWr #[.slice p n c, v2]]) w) : Calls Try.prog 37 #[.pointer (some ⟨g, 0, none⟩), .pointer (some ⟨b, 0, none⟩)] w fun e w' => e = .returned (accV 0 0 0 0 0 false) ∧ Lo w0 lo hi b rb q A B (X ++ [bx g TWr #[.slice p n c, v2]]) w' := by
  have L0 := Lib.hid h
  clear h
  go_enter Try.func37, Try.ntmps37
  go_upto_region 1 with (fail)
  have L1 := Lib.hid (L0.out.newR 62 #[.int .i64 0, .int .i64 0, .int .i64 0, .int .u64 0, .int .u64 0, .bool false])
  obtain ⟨gr, hn⟩ : ∃ gr, w.heap.size = gr := ⟨_, rfl⟩
  rw [hn] at L1
  first | rw [hn] | skip
  clear hn
  obtain ⟨W1, hW⟩ : ∃ W', w.alloc (.cells #[.int .i64 0, .int .i64 0, .int .i64 0, .int .u64 0, .int .u64 0, .bool false] 62) = W' := ⟨_, rfl⟩
  rw [hW] at L1
  first | rw [hW] | skip
  clear hW
  have L1 : Hid (Lo w0 lo hi b rb q A B (X ++ [bx g TWr #[.slice p n c, v2], bx gr 62 #[.int .i64 0, .int .i64 0, .int .i64 0, .int .u64 0, .int .u64 0, .bool false]]) W1) := L1
  clear L0
  have hdn := wr_done (L1.out.memR 0 rfl) hd
  go_upto_region 2 with ((go_at_call 34; (with_reducible refine hdn.mono ?_); rintro e w9 ⟨rfl, rfl⟩))
  clear hdn
  have c1_1_0 : W1.cell? ⟨gr, 0, none⟩ = some (.int .i64 0) := L1.out.cR 1 0 rfl rfl
  have z1_1_0 : W1.frozen? ⟨gr, 0, none⟩ = false := L1.out.zR 1 0 rfl
  have c1_1_1 : W1.cell? ⟨gr, 1, none⟩ = some (.int .i64 0) := L1.out.cR 1 1 rfl rfl
  have z1_1_1 : W1.frozen? ⟨gr, 1, none⟩ = false := L1.out.zR 1 1 rfl
  have c1_1_2 : W1.cell? ⟨gr, 2, none⟩ = some (.int .i64 0) := L1.out.cR 1 2 rfl rfl
  have z1_1_2 : W1.frozen? ⟨gr, 2, none⟩ = false := L1.out.zR 1 2 rfl
  have c1_1_3 : W1.cell? ⟨gr, 3, none⟩ = some (.int .u64 0) := L1.out.cR 1 3 rfl rfl
  have z1_1_3 : W1.frozen? ⟨gr, 3, none⟩ = false := L1.out.zR 1 3 rfl
  have c1_1_4 : W1.cell? ⟨gr, 4, none⟩ = some (.int .u64 0) := L1.out.cR 1 4 rfl rfl
  have z1_1_4 : W1.frozen? ⟨gr, 4, none⟩ = false := L1.out.zR 1 4 rfl
  have c1_1_5 : W1.cell? ⟨gr, 5, none⟩ = some (.bool false) := L1.out.cR 1 5 rfl rfl
  have z1_1_5 : W1.frozen? ⟨gr, 5, none⟩ = false := L1.out.zR 1 5 rfl
  go_wp2
  have L2 : Hid (Lo w0 lo hi b rb q A B (X ++ [bx g TWr #[.slice p n c, v2], bx gr 62 #[.int .i64 0, .int .i64 0, .int .i64 0, .int .u64 0, .int .u64 0, .bool false]]) (((((((W1.setCell ⟨gr, 0, none⟩ (.int .i64 0)).setCell ⟨gr, 1, none⟩ (.int .i64 0)).setCell ⟨gr, 2, none⟩ (.int .i64 0)).setCell ⟨gr, 3, none⟩ (.int .u64 0)).setCell ⟨gr, 4, none⟩ (.int .u64 0)).setCell ⟨gr, 5, none⟩ (.bool false)))) := Lib.hid (L1.out.sixR 1 rfl (.int .i64 0) (.int .i64 0) (.int .i64 0) (.int .u64 0) (.int .u64 0) (.bool false))
  obtain ⟨V, hV⟩ : ∃ V, ((((((W1.setCell ⟨gr, 0, none⟩ (.int .i64 0)).setCell ⟨gr, 1, none⟩ (.int .i64 0)).setCell ⟨gr, 2, none⟩ (.int .i64 0)).setCell ⟨gr, 3, none⟩ (.int .u64 0)).setCell ⟨gr, 4, none⟩ (.int .u64 0)).setCell ⟨gr, 5, none⟩ (.bool false)) = V := ⟨_, rfl⟩
  rw [hV] at L2 ⊢
  clear hV
  have hF : Lo w0 lo hi b rb q A B (X ++ [bx g TWr #[.slice p n c, v2]]) V := Lo.dropR (rs2 := [bx gr 62 #[.int .i64 0, .int .i64 0, .int .i64 0, .int .u64 0, .int .u64 0, .bool false]]) L2.out
  refine bodyPost_ret (v := .agg #[.int .i64 0, .int .i64 0, .int .i64 0, .int .u64 0, .int .u64 0, .bool false]) (results_cell_row rfl _ _ gr 62 #[.int .i64 0, .int .i64 0, .int .i64 0, .int .u64 0, .int .u64 0, .bool false] (0, 0) _ (by simp) (L2.out.memR 1 rfl) Try.underlying62 rfl (by kernel_rfl)) rfl ?_
  exact ⟨rfl, hF⟩

theorem wr_step {w0 w : World} {lo hi b rb : Nat} {q : Cfg} {A B : Int → List Int} {X : List Ob} {g g1 o1 g2 o2 n c1 c2 : Nat} {rest1 rest2 : List Int} (n1 : 1 ≤ n) (nc1 : n ≤ c1) (nc2 : n ≤ c2) {o : Nat} (hl : o < (A 1).length) {x v : Int} (hx : (A 1).getD o 0 = x) (h : Lo w0 lo hi b rb q A B (X ++ [bx g TWr #[.slice (some ⟨g1, o1, none⟩) n c1, .slice (some ⟨g2, o2, none⟩) n c2], rd .i64 (.slice (some ⟨g1, o1, none⟩) n c1) ((o : Int) :: rest1), rd .u64 (.slice (some ⟨g2, o2, none⟩) n c2) (v :: rest2)]) w) : Calls Try.prog 37 #[.pointer (some ⟨g, 0, none⟩), .pointer (some ⟨b, 0, none⟩)] w fun e w' => e = .returned (accV 2 1 o x v true) ∧ ∃ v1' v2', Lo w0 lo hi b rb q (upd A 1 o v) B (X ++ [bx g TWr #[v1', v2'], rd .i64 v1' rest1, rd .u64 v2' rest2]) w' := by
  have L0 := Lib.hid h
  clear h
  have hnI : (0 : Int) < (n : Int) := by omega
  have hnN : 0 < n := n1
  have hd : decide (n = 0) = false := by simp; omega
  obtain ⟨p1, hsl1, hpb1, htl1⟩ := tail_run (K := .i64) Try.underlying47 (fun wx => by kernel_rfl) g1 o1 n c1 n1 nc1
  have HT1 := Lib.hid (And.intro hpb1 htl1)
  clear hpb1 htl1
  obtain ⟨p2, hsl2, hpb2, htl2⟩ := tail_run (K := .u64) Try.underlying37 (fun wx => by kernel_rfl) g2 o2 n c2 n1 nc2
  have HT2 := Lib.hid (And.intro hpb2 htl2)
  clear hpb2 htl2
  go_enter Try.func37, Try.ntmps37
  go_upto_region 1 with (fail)
  have L1 := Lib.hid (L0.out.newR 62 #[.int .i64 0, .int .i64 0, .int .i64 0, .int .u64 0, .int .u64 0, .bool false])
  obtain ⟨gr, hn⟩ : ∃ gr, w.heap.size = gr := ⟨_, rfl⟩
  rw [hn] at L1
  first | rw [hn] | skip
  clear hn
  obtain ⟨W1, hW⟩ : ∃ W', w.alloc (.cells #[.int .i64 0, .int .i64 0, .int .i64 0, .int .u64 0, .int .u64 0, .bool false] 62) = W' := ⟨_, rfl⟩
  rw [hW] at L1
  first | rw [hW] | skip
  clear hW
  have L1 : Hid (Lo w0 lo hi b rb q A B (X ++ [bx g TWr #[.slice (some ⟨g1, o1, none⟩) n c1, .slice (some ⟨g2, o2, none⟩) n c2], rd .i64 (.slice (some ⟨g1, o1, none⟩) n c1) ((o : Int) :: rest1), rd .u64 (.slice (some ⟨g2, o2, none⟩) n c2) (v :: rest2), bx gr 62 #[.int .i64 0, .int .i64 0, .int .i64 0, .int .u64 0, .int .u64 0, .bool false]]) W1) := L1
  clear L0
  have hdn := wr_done (L1.out.memR 0 rfl) hd
  go_upto_region 3 with ((go_at_call 34; (with_reducible refine hdn.mono ?_); rintro e w9 ⟨rfl, rfl⟩))
  clear hdn
  have c1_0_0 : W1.cell? ⟨g, 0, none⟩ = some (.slice (some ⟨g1, o1, none⟩) n c1) := L1.out.cR 0 0 rfl rfl
  have c1_0_1 : W1.cell? ⟨g, 1, none⟩ = some (.slice (some ⟨g2, o2, none⟩) n c2) := L1.out.cR 0 1 rfl rfl
  have r1_1 : W1.cell? ⟨g1, o1, none⟩ = some (.int .i64 o) := L1.out.rR 1 rfl 0 rfl
  have r1_2 : W1.cell? ⟨g2, o2, none⟩ = some (.int .u64 v) := L1.out.rR 2 rfl 0 rfl
  go_cut [5, 6] (fun pv m0v wc => m0v = .int .i64 0 ∧ ∃ ga : Nat, pv = .pointer (some ⟨ga, 0, none⟩) ∧ Hid (Lo w0 lo hi b rb q (upd A 1 o v) B (X ++ [bx g TWr #[.slice (some ⟨g1, o1, none⟩) n c1, .slice (some ⟨g2, o2, none⟩) n c2], rd .i64 (.slice (some ⟨g1, o1, none⟩) n c1) ((o : Int) :: rest1), rd .u64 (.slice (some ⟨g2, o2, none⟩) n c2) (v :: rest2), bx gr 62 #[.int .i64 0, .int .i64 0, .int .i64 0, .int .u64 0, .int .u64 0, .bool false], bx ga 62 #[.int .i64 2, .int .i64 1, .int .i64 o, .int .u64 x, .int .u64 v, .bool true]]) wc))
  case first =>
    have Lz : Hid (Lo w0 lo hi b rb q A B (X ++ [bx g TWr #[.slice (some ⟨g1, o1, none⟩) n c1, .slice (some ⟨g2, o2, none⟩) n c2], rd .i64 (.slice (some ⟨g1, o1, none⟩) n c1) ((o : Int) :: rest1), rd .u64 (.slice (some ⟨g2, o2, none⟩) n c2) (v :: rest2), bx gr 62 #[.int .i64 0, .int .i64 0, .int .i64 0, .int .u64 0, .int .u64 0, .bool false], bx W1.heap.size 62 #[.int .i64 0, .int .i64 0, .int .i64 0, .int .u64 0, .int .u64 0, .bool false]]) (W1.alloc (.cells #[.int .i64 0, .int .i64 0, .int .i64 0, .int .u64 0, .int .u64 0, .bool false] 62))) := Lib.hid (L1.out.newR 62 #[.int .i64 0, .int .i64 0, .int .i64 0, .int .u64 0, .int .u64 0, .bool false])
    have hs0 : (fun W : World => W.cell? ⟨g, 0, none⟩ = some (.slice (some ⟨g1, o1, none⟩) n c1) ∧ W.cell? ⟨g, 1, none⟩ = some (.slice (some ⟨g2, o2, none⟩) n c2) ∧ W.cell? ⟨g1, o1, none⟩ = some (.int .i64 o) ∧ W.cell? ⟨g2, o2, none⟩ = some (.int .u64 v)) W1.drew := ⟨L1.out.drew.cR 0 0 rfl rfl, L1.out.drew.cR 0 1 rfl rfl, L1.out.drew.rR 1 rfl 0 rfl, L1.out.drew.rR 2 rfl 0 rfl⟩
    have hs1 : (fun W : World => W.cell? ⟨g, 0, none⟩ = some (.slice (some ⟨g1, o1, none⟩) n c1) ∧ W.cell? ⟨g, 1, none⟩ = some (.slice (some ⟨g2, o2, none⟩) n c2) ∧ W.cell? ⟨g1, o1, none⟩ = some (.int .i64 o) ∧ W.cell? ⟨g2, o2, none⟩ = some (.int .u64 v)) (W1.alloc (.cells #[.int .i64 0, .int .i64 0, .int .i64 0, .int .u64 0, .int .u64 0, .bool false] 62)).drew := ⟨Lz.out.drew.cR 0 0 rfl rfl, Lz.out.drew.cR 0 1 rfl rfl, Lz.out.drew.rR 1 rfl 0 rfl, Lz.out.drew.rR 2 rfl 0 rfl⟩
    have hc := lo_store L1.out.drew 1 (by decide) o hl x hx v
    have hc2 := lo_store Lz.out.drew 1 (by decide) o hl x hx v
    have hka : ∀ W', Lo w0 lo hi b rb q (upd A 1 o v) B (X ++ [bx g TWr #[.slice (some ⟨g1, o1, none⟩) n c1, .slice (some ⟨g2, o2, none⟩) n c2], rd .i64 (.slice (some ⟨g1, o1, none⟩) n c1) ((o : Int) :: rest1), rd .u64 (.slice (some ⟨g2, o2, none⟩) n c2) (v :: rest2), bx gr 62 #[.int .i64 0, .int .i64 0, .int .i64 0, .int .u64 0, .int .u64 0, .bool false]]) W' → ((fun W : World => W.cell? ⟨g, 0, none⟩ = some (.slice (some ⟨g1, o1, none⟩) n c1) ∧ W.cell? ⟨g, 1, none⟩ = some (.slice (some ⟨g2, o2, none⟩) n c2) ∧ W.cell? ⟨g1, o1, none⟩ = some (.int .i64 o) ∧ W.cell? ⟨g2, o2, none⟩ = some (.int .u64 v)) W' ∧ (fun W : World => W.cell? ⟨g, 0, none⟩ = some (.slice (some ⟨g1, o1, none⟩) n c1) ∧ W.cell? ⟨g, 1, none⟩ = some (.slice (some ⟨g2, o2, none⟩) n c2) ∧ W.cell? ⟨g1, o1, none⟩ = some (.int .i64 o) ∧ W.cell? ⟨g2, o2, none⟩ = some (.int .u64 v)) (W'.alloc (.cells #[.int .i64 0, .int .i64 0, .int .i64 0, .int .u64 0, .int .u64 0, .bool false] 62)) ∧ (fun W : World => W.cell? ⟨g, 0, none⟩ = some (.slice (some ⟨g1, o1, none⟩) n c1) ∧ W.cell? ⟨g, 1, none⟩ = some (.slice (some ⟨g2, o2, none⟩) n c2) ∧ W.cell? ⟨g1, o1, none⟩ = some (.int .i64 o) ∧ W.cell? ⟨g2, o2, none⟩ = some (.int .u64 v)) (W'.alloc (.cells #[.int .i64 2, .int .i64 1, .int .i64 o, .int .u64 x, .int .u64 v, .bool true] 62))) := fun W' h => ⟨⟨h.cR 0 0 rfl rfl, h.cR 0 1 rfl rfl, h.rR 1 rfl 0 rfl, h.rR 2 rfl 0 rfl⟩, ⟨(h.newR 62 #[.int .i64 0, .int .i64 0, .int .i64 0, .int .u64 0, .int .u64 0, .bool false]).cR 0 0 rfl rfl, (h.newR 62 #[.int .i64 0, .int .i64 0, .int .i64 0, .int .u64 0, .int .u64 0, .bool false]).cR 0 1 rfl rfl, (h.newR 62 #[.int .i64 0, .int .i64 0, .int .i64 0, .int .u64 0, .int .u64 0, .bool false]).rR 1 rfl 0 rfl, (h.newR 62 #[.int .i64 0, .int .i64 0, .int .i64 0, .int .u64 0, .int .u64 0, .bool false]).rR 2 rfl 0 rfl⟩, ⟨(h.newR 62 #[.int .i64 2, .int .i64 1, .int .i64 o, .int .u64 x, .int .u64 v, .bool true]).cR 0 0 rfl rfl, (h.newR 62 #[.int .i64 2, .int .i64 1, .int .i64 o, .int .u64 x, .int .u64 v, .bool true]).cR 0 1 rfl rfl, (h.newR 62 #[.int .i64 2, .int .i64 1, .int .i64 o, .int .u64 x, .int .u64 v, .bool true]).rR 1 rfl 0 rfl, (h.newR 62 #[.int .i64 2, .int .i64 1, .int .i64 o, .int .u64 x, .int .u64 v, .bool true]).rR 2 rfl 0 rfl⟩⟩
    have hkb : ∀ W', Lo w0 lo hi b rb q (upd A 1 o v) B (X ++ [bx g TWr #[.slice (some ⟨g1, o1, none⟩) n c1, .slice (some ⟨g2, o2, none⟩) n c2], rd .i64 (.slice (some ⟨g1, o1, none⟩) n c1) ((o : Int) :: rest1), rd .u64 (.slice (some ⟨g2, o2, none⟩) n c2) (v :: rest2), bx gr 62 #[.int .i64 0, .int .i64 0, .int .i64 0, .int .u64 0, .int .u64 0, .bool false], bx W1.heap.size 62 #[.int .i64 0, .int .i64 0, .int .i64 0, .int .u64 0, .int .u64 0, .bool false]]) W' → ((fun W : World => W.cell? ⟨g, 0, none⟩ = some (.slice (some ⟨g1, o1, none⟩) n c1) ∧ W.cell? ⟨g, 1, none⟩ = some (.slice (some ⟨g2, o2, none⟩) n c2) ∧ W.cell? ⟨g1, o1, none⟩ = some (.int .i64 o) ∧ W.cell? ⟨g2, o2, none⟩ = some (.int .u64 v)) W' ∧ (fun W : World => W.cell? ⟨g, 0, none⟩ = some (.slice (some ⟨g1, o1, none⟩) n c1) ∧ W.cell? ⟨g, 1, none⟩ = some (.slice (some ⟨g2, o2, none⟩) n c2) ∧ W.cell? ⟨g1, o1, none⟩ = some (.int .i64 o) ∧ W.cell? ⟨g2, o2, none⟩ = some (.int .u64 v)) (((((((W'.setCell ⟨W1.heap.size, 0, none⟩ (.int .i64 2)).setCell ⟨W1.heap.size, 1, none⟩ (.int .i64 1)).setCell ⟨W1.heap.size, 2, none⟩ (.int .i64 o)).setCell ⟨W1.heap.size, 3, none⟩ (.int .u64 x)).setCell ⟨W1.heap.size, 4, none⟩ (.int .u64 v)).setCell ⟨W1.heap.size, 5, none⟩ (.bool true))) ∧ Mem W' W1.heap.size 62 #[.int .i64 0, .int .i64 0, .int .i64 0, .int .u64 0, .int .u64 0, .bool false]) := fun W' h => ⟨⟨h.cR 0 0 rfl rfl, h.cR 0 1 rfl rfl, h.rR 1 rfl 0 rfl, h.rR 2 rfl 0 rfl⟩, ⟨(h.sixR 4 rfl (.int .i64 2) (.int .i64 1) (.int .i64 o) (.int .u64 x) (.int .u64 v) (.bool true)).cR 0 0 rfl rfl, (h.sixR 4 rfl (.int .i64 2) (.int .i64 1) (.int .i64 o) (.int .u64 x) (.int .u64 v) (.bool true)).cR 0 1 rfl rfl, (h.sixR 4 rfl (.int .i64 2) (.int .i64 1) (.int .i64 o) (.int .u64 x) (.int .u64 v) (.bool true)).rR 1 rfl 0 rfl, (h.sixR 4 rfl (.int .i64 2) (.int .i64 1) (.int .i64 o) (.int .u64 x) (.int .u64 v) (.bool true)).rR 2 rfl 0 rfl⟩, h.memR 4 rfl⟩
    clear Lz
    go_region_held3 (fun W : World => W.cell? ⟨g, 0, none⟩ = some (.slice (some ⟨g1, o1, none⟩) n c1) ∧ W.cell? ⟨g, 1, none⟩ = some (.slice (some ⟨g2, o2, none⟩) n c2) ∧ W.cell? ⟨g1, o1, none⟩ = some (.int .i64 o) ∧ W.cell? ⟨g2, o2, none⟩ = some (.int .u64 v)) (first | (with_reducible exact hs0) | (with_reducible exact hs1) | (with_reducible assumption)) (first | (go_at_call 48; (with_reducible refine hc.mono ?_); rintro e w2' ⟨rfl, hL⟩; obtain ⟨hk1, hk2, hk3⟩ := hka _ hL) | (go_at_call 48; (with_reducible refine hc2.mono ?_); rintro e w2' ⟨rfl, hL⟩; obtain ⟨hk1, hk2, hk3⟩ := hkb _ hL; have d0 := hk3.cell 0; have d1 := hk3.cell 1; have d2 := hk3.cell 2; have d3 := hk3.cell 3; have d4 := hk3.cell 4; have d5 := hk3.cell 5; have df := hk3.frozen))
    all_goals go_wp2_with fail
    all_goals go_meet
    all_goals first
      | exact ⟨rfl, _, rfl, Lib.hid (hL.newR 62 #[.int .i64 2, .int .i64 1, .int .i64 o, .int .u64 x, .int .u64 v, .bool true])⟩
      | exact ⟨rfl, _, rfl, Lib.hid (hL.sixR 4 rfl (.int .i64 2) (.int .i64 1) (.int .i64 o) (.int .u64 x) (.int .u64 v) (.bool true))⟩
  case rest =>
    clear L1 c1_0_0 c1_0_1 r1_1 r1_2
    obtain ⟨rfl, ga, rfl, L2⟩ := hcut
    go_upto_region 4 with (fail)
    have c2_0_0 : wc.cell? ⟨g, 0, none⟩ = some (.slice (some ⟨g1, o1, none⟩) n c1) := L2.out.cR 0 0 rfl rfl
    have c2_0_1 : wc.cell? ⟨g, 1, none⟩ = some (.slice (some ⟨g2, o2, none⟩) n c2) := L2.out.cR 0 1 rfl rfl
    have z2_0_0 : wc.frozen? ⟨g, 0, none⟩ = false := L2.out.zR 0 0 rfl
    have z2_0_1 : wc.frozen? ⟨g, 1, none⟩ = false := L2.out.zR 0 1 rfl
    have LP : Hid (Lo w0 lo hi b rb q (upd A 1 o v) B (X ++ [bx g TWr #[.slice p1 (n - 1) (c1 - 1), .slice p2 (n - 1) (c2 - 1)], rd .i64 (.slice (some ⟨g1, o1, none⟩) n c1) ((o : Int) :: rest1), rd .u64 (.slice (some ⟨g2, o2, none⟩) n c2) (v :: rest2), bx gr 62 #[.int .i64 0, .int .i64 0, .int .i64 0, .int .u64 0, .int .u64 0, .bool false], bx ga 62 #[.int .i64 2, .int .i64 1, .int .i64 o, .int .u64 x, .int .u64 v, .bool true]]) (((wc.setCell ⟨g, 0, none⟩ (.slice p1 (n - 1) (c1 - 1))).setCell ⟨g, 1, none⟩ (.slice p2 (n - 1) (c2 - 1))).drew)) := Lib.hid (Lo.drew (Lo.putR (L2.out.putR 0 0 (.slice p1 (n - 1) (c1 - 1)) rfl (by rfl)) 0 1 (.slice p2 (n - 1) (c2 - 1)) rfl (by rfl)))
    have LQ : Hid (Lo w0 lo hi b rb q (upd A 1 o v) B (X ++ [bx g TWr #[.slice p1 (n - 1) (c1 - 1), .slice p2 (n - 1) (c2 - 1)], rd .i64 (.slice p1 (n - 1) (c1 - 1)) rest1, rd .u64 (.slice (some ⟨g2, o2, none⟩) n c2) (v :: rest2), bx gr 62 #[.int .i64 0, .int .i64 0, .int .i64 0, .int .u64 0, .int .u64 0, .bool false], bx ga 62 #[.int .i64 2, .int .i64 1, .int .i64 o, .int .u64 x, .int .u64 v, .bool true]]) (((wc.setCell ⟨g, 0, none⟩ (.slice p1 (n - 1) (c1 - 1))).setCell ⟨g, 1, none⟩ (.slice p2 (n - 1) (c2 - 1))).drew)) := Lib.hid (LP.out.seeR 1 rfl (HT1.out.2 _ _ _ (LP.out.isR 1 rfl)) (fun x hx => mem_blk (v := .slice (some ⟨g1, o1, none⟩) n c1) (HT1.out.1.symm.trans (blk_mem hx))))
    have LF : Hid (Lo w0 lo hi b rb q (upd A 1 o v) B (X ++ [bx g TWr #[.slice p1 (n - 1) (c1 - 1), .slice p2 (n - 1) (c2 - 1)], rd .i64 (.slice p1 (n - 1) (c1 - 1)) rest1, rd .u64 (.slice p2 (n - 1) (c2 - 1)) rest2, bx gr 62 #[.int .i64 0, .int .i64 0, .int .i64 0, .int .u64 0, .int .u64 0, .bool false], bx ga 62 #[.int .i64 2, .int .i64 1, .int .i64 o, .int .u64 x, .int .u64 v, .bool true]]) (((wc.setCell ⟨g, 0, none⟩ (.slice p1 (n - 1) (c1 - 1))).setCell ⟨g, 1, none⟩ (.slice p2 (n - 1) (c2 - 1))).drew)) := Lib.hid (LQ.out.seeR 2 rfl (HT2.out.2 _ _ _ (LQ.out.isR 2 rfl)) (fun x hx => mem_blk (v := .slice (some ⟨g2, o2, none⟩) n c2) (HT2.out.1.symm.trans (blk_mem hx))))
    clear LP LQ HT1 HT2
    go_cut [5] (fun pv wc => pv = .pointer (some ⟨ga, 0, none⟩) ∧ Hid (Lo w0 lo hi b rb q (upd A 1 o v) B (X ++ [bx g TWr #[.slice p1 (n - 1) (c1 - 1), .slice p2 (n - 1) (c2 - 1)], rd .i64 (.slice p1 (n - 1) (c1 - 1)) rest1, rd .u64 (.slice p2 (n - 1) (c2 - 1)) rest2, bx gr 62 #[.int .i64 0, .int .i64 0, .int .i64 0, .int .u64 0, .int .u64 0, .bool false], bx ga 62 #[.int .i64 2, .int .i64 1, .int .i64 o, .int .u64 x, .int .u64 v, .bool true]]) wc))
    case first =>
      go_region
      all_goals go_wp2_with fail
      all_goals go_meet
      all_goals exact ⟨rfl, LF⟩
    case rest =>
      clear LF L2 c2_0_0 c2_0_1 z2_0_0 z2_0_1
      obtain ⟨rfl, L3⟩ := hcut
      have c3_3_0 : wc.cell? ⟨gr, 0, none⟩ = some (.int .i64 0) := L3.out.cR 3 0 rfl rfl
      have z3_3_0 : wc.frozen? ⟨gr, 0, none⟩ = false := L3.out.zR 3 0 rfl
      have c3_4_0 : wc.cell? ⟨ga, 0, none⟩ = some (.int .i64 2) := L3.out.cR 4 0 rfl rfl
      have c3_3_1 : wc.cell? ⟨gr, 1, none⟩ = some (.int .i64 0) := L3.out.cR 3 1 rfl rfl
      have z3_3_1 : wc.frozen? ⟨gr, 1, none⟩ = false := L3.out.zR 3 1 rfl
      have c3_4_1 : wc.cell? ⟨ga, 1, none⟩ = some (.int .i64 1) := L3.out.cR 4 1 rfl rfl
      have c3_3_2 : wc.cell? ⟨gr, 2, none⟩ = some (.int .i64 0) := L3.out.cR 3 2 rfl rfl
      have z3_3_2 : wc.frozen? ⟨gr, 2, none⟩ = false := L3.out.zR 3 2 rfl
      have c3_4_2 : wc.cell? ⟨ga, 2, none⟩ = some (.int .i64 o) := L3.out.cR 4 2 rfl rfl
      have c3_3_3 : wc.cell? ⟨gr, 3, none⟩ = some (.int .u64 0) := L3.out.cR 3 3 rfl rfl
      have z3_3_3 : wc.frozen? ⟨gr, 3, none⟩ = false := L3.out.zR 3 3 rfl
      have c3_4_3 : wc.cell? ⟨ga, 3, none⟩ = some (.int .u64 x) := L3.out.cR 4 3 rfl rfl
      have c3_3_4 : wc.cell? ⟨gr, 4, none⟩ = some (.int .u64 0) := L3.out.cR 3 4 rfl rfl
      have z3_3_4 : wc.frozen? ⟨gr, 4, none⟩ = false := L3.out.zR 3 4 rfl
      have c3_4_4 : wc.cell? ⟨ga, 4, none⟩ = some (.int .u64 v) := L3.out.cR 4 4 rfl rfl
      have c3_3_5 : wc.cell? ⟨gr, 5, none⟩ = some (.bool false) := L3.out.cR 3 5 rfl rfl
      have z3_3_5 : wc.frozen? ⟨gr, 5, none⟩ = false := L3.out.zR 3 5 rfl
      have c3_4_5 : wc.cell? ⟨ga, 5, none⟩ = some (.bool true) := L3.out.cR 4 5 rfl rfl
      go_wp2
      have L4 : Hid (Lo w0 lo hi b rb q (upd A 1 o v) B (X ++ [bx g TWr #[.slice p1 (n - 1) (c1 - 1), .slice p2 (n - 1) (c2 - 1)], rd .i64 (.slice p1 (n - 1) (c1 - 1)) rest1, rd .u64 (.slice p2 (n - 1) (c2 - 1)) rest2, bx gr 62 #[.int .i64 2, .int .i64 1, .int .i64 o, .int .u64 x, .int .u64 v, .bool true], bx ga 62 #[.int .i64 2, .int .i64 1, .int .i64 o, .int .u64 x, .int .u64 v, .bool true]]) (((((((wc.setCell ⟨gr, 0, none⟩ (.int .i64 2)).setCell ⟨gr, 1, none⟩ (.int .i64 1)).setCell ⟨gr, 2, none⟩ (.int .i64 o)).setCell ⟨gr, 3, none⟩ (.int .u64 x)).setCell ⟨gr, 4, none⟩ (.int .u64 v)).setCell ⟨gr, 5, none⟩ (.bool true)))) := Lib.hid (L3.out.sixR 3 rfl (.int .i64 2) (.int .i64 1) (.int .i64 o) (.int .u64 x) (.int .u64 v) (.bool true))
      obtain ⟨V, hV⟩ : ∃ V, ((((((wc.setCell ⟨gr, 0, none⟩ (.int .i64 2)).setCell ⟨gr, 1, none⟩ (.int .i64 1)).setCell ⟨gr, 2, none⟩ (.int .i64 o)).setCell ⟨gr, 3, none⟩ (.int .u64 x)).setCell ⟨gr, 4, none⟩ (.int .u64 v)).setCell ⟨gr, 5, none⟩ (.bool true)) = V := ⟨_, rfl⟩
      rw [hV] at L4 ⊢
      clear hV
      have hF : Lo w0 lo hi b rb q (upd A 1 o v) B (X ++ [bx g TWr #[.slice p1 (n - 1) (c1 - 1), .slice p2 (n - 1) (c2 - 1)], rd .i64 (.slice p1 (n - 1) (c1 - 1)) rest1, rd .u64 (.slice p2 (n - 1) (c2 - 1)) rest2]) V := Lo.dropR (rs2 := [bx gr 62 #[.int .i64 2, .int .i64 1, .int .i64 o, .int .u64 x, .int .u64 v, .bool true], bx ga 62 #[.int .i64 2, .int .i64 1, .int .i64 o, .int .u64 x, .int .u64 v, .bool true]]) L4.out
      refine bodyPost_ret (v := .agg #[.int .i64 2, .int .i64 1, .int .i64 o, .int .u64 x, .int .u64 v, .bool true]) (results_cell_row rfl _ _ gr 62 #[.int .i64 2, .int .i64 1, .int .i64 o, .int .u64 x, .int .u64 v, .bool true] (0, 0) _ (by simp) (L4.out.memR 3 rfl) Try.underlying62 rfl (by kernel_rfl)) rfl ?_
      exact ⟨rfl, _, _, hF⟩

theorem qs_done {w : World} {g n c k : Nat} {p : Option Addr} {v0 v2 : Value} (M : Mem w g TQs #[v0, .slice p n c, v2, .int .i64 k]) : Calls Try.prog 35 #[.pointer (some ⟨g, 0, none⟩)] w fun e w' => e = .returned (.bool ((k : Int) == (n : Int))) ∧ ∃ n, w' = w.drewN n := by
  have c1 := M.cell 1
  have c2 := M.cell 3
  simp at c1 c2
  clear M
  go_enter Try.func35, Try.ntmps35
  go_upto_region 1 with (fail)
  go_quiet (fail)
  go_wp2
  go_ret
  exact ⟨rfl, nq, rfl⟩
theorem qs_new {w0 w : World} {lo hi b rb : Nat} {q : Cfg} {A B : Int → List Int} {X : List Ob} (h : Lo w0 lo hi b rb q A B X w) (p1 p2 : Option Addr) (n1 n2 m c1 c2 : Nat) (hm : min n1 n2 = m) (h1 : m ≤ c1) (h2 : m ≤ c2) : Calls Try.prog 33 #[.int .i64 1, .slice p1 n1 c1, .slice p2 n2 c2] w fun e w' => ∃ g, e = .returned (.pointer (some ⟨g, 0, none⟩)) ∧ Lo w0 lo hi b rb q A B (X ++ [bx g TQs #[.int .i64 1, .slice p1 m c1, .slice p2 m c2, .int .i64 0]]) w' := by
  have L0 := Lib.hid h
  have hs1 := cut_run (ts := 47) Try.underlying47 (fun wx => by kernel_rfl) p1 n1 c1 m h1
  have hs2 := cut_run (ts := 37) Try.underlying37 (fun wx => by kernel_rfl) p2 n2 c2 m h2
  have hmin : (if n2 < n1 then (n2 : Int) else (n1 : Int)) = (m : Int) := by split <;> omega
  clear h h1 h2 hm
  go_enter Try.func33, Try.ntmps33
  go_upto_region 2 with (fail)
  go_region_held3 (fun W : World => True) (first | trivial) (fail)
  have L1 := Lib.hid (L0.out.drew.new TQs #[.int .i64 1, .slice p1 m c1, .slice p2 m c2, .int .i64 0])
  go_wp2
  go_ret
  exact ⟨_, rfl, L1.out⟩

theorem qs_over {w0 w : World} {lo hi b rb : Nat} {q : Cfg} {A B : Int → List Int} {X : List Ob} {g n c1 : Nat} {p1 : Option Addr} {v2 : Value} (h : Lo w0 lo hi b rb q A B (X ++ [bx g TQs #[.int .i64 1, .slice p1 n c1, v2, .int .i64 n]]) w) : Calls Try.prog 38 #[.pointer (some ⟨g, 0, none⟩), .pointer (some ⟨rb, 0, none⟩)] w fun e w' => e = .returned (accV 0 0 0 0 0 false) ∧ Lo w0 lo hi b rb q A B (X ++ [bx g TQs #[.int .i64 1, .slice p1 n c1, v2, .int .i64 n]]) w' := by
  have L0 := Lib.hid h
  clear h
  go_enter Try.func38, Try.ntmps38
  go_upto_region 1 with (fail)
  have L1 := Lib.hid (L0.out.newR 62 #[.int .i64 0, .int .i64 0, .int .i64 0, .int .u64 0, .int .u64 0, .bool false])
  obtain ⟨gr, hn⟩ : ∃ gr, w.heap.size = gr := ⟨_, rfl⟩
  rw [hn] at L1
  first | rw [hn] | skip
  clear hn
  obtain ⟨W1, hW⟩ : ∃ W', w.alloc (.cells #[.int .i64 0, .int .i64 0, .int .i64 0, .int .u64 0, .int .u64 0, .bool false] 62) = W' := ⟨_, rfl⟩
  rw [hW] at L1
  first | rw [hW] | skip
  clear hW
  have L1 : Hid (Lo w0 lo hi b rb q A B (X ++ [bx g TQs #[.int .i64 1, .slice p1 n c1, v2, .int .i64 n], bx gr 62 #[.int .i64 0, .int .i64 0, .int .i64 0, .int .u64 0, .int .u64 0, .bool false]]) W1) := L1
  clear L0
  have hdn := qs_done (L1.out.memR 0 rfl)
  rw [show ((n : Int) == (n : Int)) = true by simp] at hdn
  go_upto_region 2 with ((go_at_call 35; (with_reducible refine hdn.mono ?_); rintro e w9 ⟨rfl, nq, rfl⟩))
  clear hdn
  have L2 : Hid (Lo w0 lo hi b rb q A B (X ++ [bx g TQs #[.int .i64 1, .slice p1 n c1, v2, .int .i64 n], bx gr 62 #[.int .i64 0, .int .i64 0, .int .i64 0, .int .u64 0, .int .u64 0, .bool false]]) (W1.drewN nq)) := Lib.hid (L1.out.drewN nq)
  obtain ⟨W2, hW⟩ : ∃ W', W1.drewN nq = W' := ⟨_, rfl⟩
  rw [hW] at L2
  first | rw [hW] | skip
  clear hW
  clear L1
  clear nq
  have c2_1_0 : W2.cell? ⟨gr, 0, none⟩ = some (.int .i64 0) := L2.out.cR 1 0 rfl rfl
  have z2_1_0 : W2.frozen? ⟨gr, 0, none⟩ = false := L2.out.zR 1 0 rfl
  have c2_1_1 : W2.cell? ⟨gr, 1, none⟩ = some (.int .i64 0) := L2.out.cR 1 1 rfl rfl
  have z2_1_1 : W2.frozen? ⟨gr, 1, none⟩ = false := L2.out.zR 1 1 rfl
  have c2_1_2 : W2.cell? ⟨gr, 2, none⟩ = some (.int .i64 0) := L2.out.cR 1 2 rfl rfl
  have z2_1_2 : W2.frozen? ⟨gr, 2, none⟩ = false := L2.out.zR 1 2 rfl
  have c2_1_3 : W2.cell? ⟨gr, 3, none⟩ = some (.int .u64 0) := L2.out.cR 1 3 rfl rfl
  have z2_1_3 : W2.frozen? ⟨gr, 3, none⟩ = false := L2.out.zR 1 3 rfl
  have c2_1_4 : W2.cell? ⟨gr, 4, none⟩ = some (.int .u64 0) := L2.out.cR 1 4 rfl rfl
  have z2_1_4 : W2.frozen? ⟨gr, 4, none⟩ = false := L2.out.zR 1 4 rfl
  have c2_1_5 : W2.cell? ⟨gr, 5, none⟩ = some (.bool false) := L2.out.cR 1 5 rfl rfl
  have z2_1_5 : W2.frozen? ⟨gr, 5, none⟩ = false := L2.out.zR 1 5 rfl
  go_wp2
  have L3 : Hid (Lo w0 lo hi b rb q A B (X ++ [bx g TQs #[.int .i64 1, .slice p1 n c1, v2, .int .i64 n], bx gr 62 #[.int .i64 0, .int .i64 0, .int .i64 0, .int .u64 0, .int .u64 0, .bool false]]) (((((((W2.setCell ⟨gr, 0, none⟩ (.int .i64 0)).setCell ⟨gr, 1, none⟩ (.int .i64 0)).setCell ⟨gr, 2, none⟩ (.int .i64 0)).setCell ⟨gr, 3, none⟩ (.int .u64 0)).setCell ⟨gr, 4, none⟩ (.int .u64 0)).setCell ⟨gr, 5, none⟩ (.bool false)))) := Lib.hid (L2.out.sixR 1 rfl (.int .i64 0) (.int .i64 0) (.int .i64 0) (.int .u64 0) (.int .u64 0) (.bool false))
  obtain ⟨V, hV⟩ : ∃ V, ((((((W2.setCell ⟨gr, 0, none⟩ (.int .i64 0)).setCell ⟨gr, 1, none⟩ (.int .i64 0)).setCell ⟨gr, 2, none⟩ (.int .i64 0)).setCell ⟨gr, 3, none⟩ (.int .u64 0)).setCell ⟨gr, 4, none⟩ (.int .u64 0)).setCell ⟨gr, 5, none⟩ (.bool false)) = V := ⟨_, rfl⟩
  rw [hV] at L3 ⊢
  clear hV
  have hF : Lo w0 lo hi b rb q A B (X ++ [bx g TQs #[.int .i64 1, .slice p1 n c1, v2, .int .i64 n]]) V := Lo.dropR (rs2 := [bx gr 62 #[.int .i64 0, .int .i64 0, .int .i64 0, .int .u64 0, .int .u64 0, .bool false]]) L3.out
  refine bodyPost_ret (v := .agg #[.int .i64 0, .int .i64 0, .int .i64 0, .int .u64 0, .int .u64 0, .bool false]) (results_cell_row rfl _ _ gr 62 #[.int .i64 0, .int .i64 0, .int .i64 0, .int .u64 0, .int .u64 0, .bool false] (0, 0) _ (by simp) (L3.out.memR 1 rfl) Try.underlying62 rfl (by kernel_rfl)) rfl ?_
  exact ⟨rfl, hF⟩

theorem qs_step {w0 w : World} {lo hi b rb : Nat} {q : Cfg} {A B : Int → List Int} {X : List Ob} {g g1 o1 g2 o2 n c1 c2 k : Nat} {xs : List Int} {o : Nat} (hl : o < (B 1).length) {x v : Int} (hx : (B 1).getD o 0 = x) (hk : k < n) (hk1 : k < 1000000) (hxo : xs[k]? = some (o : Int)) (hvw : ∀ W, Below w0.heap.size w0 W → W.cell? ⟨g2, o2 + k, none⟩ = some (.int .u64 v)) (h : Lo w0 lo hi b rb q A B (X ++ [bx g TQs #[.int .i64 1, .slice (some ⟨g1, o1, none⟩) n c1, .slice (some ⟨g2, o2, none⟩) n c2, .int .i64 k], rd .i64 (.slice (some ⟨g1, o1, none⟩) n c1) xs]) w) : Calls Try.prog 38 #[.pointer (some ⟨g, 0, none⟩), .pointer (some ⟨rb, 0, none⟩)] w fun e w' => e = .returned (accV 2 1 o x v true) ∧ Lo w0 lo hi b rb q A (upd B 1 o v) (X ++ [bx g TQs #[.int .i64 1, .slice (some ⟨g1, o1, none⟩) n c1, .slice (some ⟨g2, o2, none⟩) n c2, .int .i64 ((k : Int) + 1)], rd .i64 (.slice (some ⟨g1, o1, none⟩) n c1) xs]) w' := by
  have L0 := Lib.hid h
  clear h
  have hkI : (k : Int) < n := by omega
  have hk0 : (0 : Int) ≤ k := by omega
  have hw1 : IntKind.i64.wrap ((k : Int) + 1) = (k : Int) + 1 := IntWalk.i64_in _ (by omega)
  have hw2 : IntKind.i64.wrap ((k : Int) + 1 - 1) = (k : Int) := (IntWalk.i64_in _ (by omega)).trans (by omega)
  have hw3 : IntKind.i64.wrap (k : Int) = (k : Int) := IntWalk.i64_in _ (by omega)
  go_enter Try.func38, Try.ntmps38
  go_upto_region 1 with (fail)
  have L1 := Lib.hid (L0.out.newR 62 #[.int .i64 0, .int .i64 0, .int .i64 0, .int .u64 0, .int .u64 0, .bool false])
  obtain ⟨gr, hn⟩ : ∃ gr, w.heap.size = gr := ⟨_, rfl⟩
  rw [hn] at L1
  first | rw [hn] | skip
  clear hn
  obtain ⟨W1, hW⟩ : ∃ W', w.alloc (.cells #[.int .i64 0, .int .i64 0, .int .i64 0, .int .u64 0, .int .u64 0, .bool false] 62) = W' := ⟨_, rfl⟩
  rw [hW] at L1
  first | rw [hW] | skip
  clear hW
  have L1 : Hid (Lo w0 lo hi b rb q A B (X ++ [bx g TQs #[.int .i64 1, .slice (some ⟨g1, o1, none⟩) n c1, .slice (some ⟨g2, o2, none⟩) n c2, .int .i64 k], rd .i64 (.slice (some ⟨g1, o1, none⟩) n c1) xs, bx gr 62 #[.int .i64 0, .int .i64 0, .int .i64 0, .int .u64 0, .int .u64 0, .bool false]]) W1) := L1
  clear L0
  have hdn := qs_done (L1.out.memR 0 rfl)
  rw [show ((k : Int) == (n : Int)) = false by rw [beq_eq_false_iff_ne]; omega] at hdn
  go_upto_region 3 with ((go_at_call 35; (with_reducible refine hdn.mono ?_); rintro e w9 ⟨rfl, nq, rfl⟩))
  clear hdn
  have L2 : Hid (Lo w0 lo hi b rb q A B (X ++ [bx g TQs #[.int .i64 1, .slice (some ⟨g1, o1, none⟩) n c1, .slice (some ⟨g2, o2, none⟩) n c2, .int .i64 k], rd .i64 (.slice (some ⟨g1, o1, none⟩) n c1) xs, bx gr 62 #[.int .i64 0, .int .i64 0, .int .i64 0, .int .u64 0, .int .u64 0, .bool false]]) (W1.drewN nq)) := Lib.hid (L1.out.drewN nq)
  obtain ⟨W2, hW⟩ : ∃ W', W1.drewN nq = W' := ⟨_, rfl⟩
  rw [hW] at L2
  first | rw [hW] | skip
  clear hW
  clear L1
  clear nq
  have c2_0_3 : W2.cell? ⟨g, 3, none⟩ = some (.int .i64 k) := L2.out.cR 0 3 rfl rfl
  have z2_0_3 : W2.frozen? ⟨g, 3, none⟩ = false := L2.out.zR 0 3 rfl
  go_upto_region 4 with (fail)
  have L3 : Hid (Lo w0 lo hi b rb q A B (X ++ [bx g TQs #[.int .i64 1, .slice (some ⟨g1, o1, none⟩) n c1, .slice (some ⟨g2, o2, none⟩) n c2, .int .i64 ((k : Int) + 1)], rd .i64 (.slice (some ⟨g1, o1, none⟩) n c1) xs, bx gr 62 #[.int .i64 0, .int .i64 0, .int .i64 0, .int .u64 0, .int .u64 0, .bool false]]) (W2.setCell ⟨g, 3, none⟩ (.int .i64 ((k : Int) + 1)))) := Lib.hid (L2.out.putR 0 3 (.int .i64 ((k : Int) + 1)) rfl (by rfl))
  obtain ⟨W3, hW⟩ : ∃ W', W2.setCell ⟨g, 3, none⟩ (.int .i64 ((k : Int) + 1)) = W' := ⟨_, rfl⟩
  rw [hW] at L3
  first | rw [hW] | skip
  clear hW
  clear L2 c2_0_3 z2_0_3
  have c3_0_0 : W3.cell? ⟨g, 0, none⟩ = some (.int .i64 1) := L3.out.cR 0 0 rfl rfl
  have c3_0_1 : W3.cell? ⟨g, 1, none⟩ = some (.slice (some ⟨g1, o1, none⟩) n c1) := L3.out.cR 0 1 rfl rfl
  have c3_0_2 : W3.cell? ⟨g, 2, none⟩ = some (.slice (some ⟨g2, o2, none⟩) n c2) := L3.out.cR 0 2 rfl rfl
  have c3_0_3 : W3.cell? ⟨g, 3, none⟩ = some (.int .i64 ((k : Int) + 1)) := L3.out.cR 0 3 rfl rfl
  have ra : W3.cell? ⟨g1, o1 + k, none⟩ = some (.int .i64 o) := L3.out.rR 1 rfl k hxo
  have rv : W3.cell? ⟨g2, o2 + k, none⟩ = some (.int .u64 v) := hvw _ L3.out.old
  have hs0 : (fun W : World => W.cell? ⟨g, 0, none⟩ = some (.int .i64 1) ∧ W.cell? ⟨g, 1, none⟩ = some (.slice (some ⟨g1, o1, none⟩) n c1) ∧ W.cell? ⟨g, 2, none⟩ = some (.slice (some ⟨g2, o2, none⟩) n c2) ∧ W.cell? ⟨g, 3, none⟩ = some (.int .i64 ((k : Int) + 1)) ∧ W.cell? ⟨g1, o1 + k, none⟩ = some (.int .i64 o) ∧ W.cell? ⟨g2, o2 + k, none⟩ = some (.int .u64 v)) W3.drew := ⟨L3.out.drew.cR 0 0 rfl rfl, L3.out.drew.cR 0 1 rfl rfl, L3.out.drew.cR 0 2 rfl rfl, L3.out.drew.cR 0 3 rfl rfl, L3.out.drew.rR 1 rfl k hxo, hvw _ L3.out.drew.old⟩
  have hc := ro_store L3.out.drew 1 (by decide) o hl x hx v
  have c3_2_0 : W3.cell? ⟨gr, 0, none⟩ = some (.int .i64 0) := L3.out.cR 2 0 rfl rfl
  have c3_2_1 : W3.cell? ⟨gr, 1, none⟩ = some (.int .i64 0) := L3.out.cR 2 1 rfl rfl
  have c3_2_2 : W3.cell? ⟨gr, 2, none⟩ = some (.int .i64 0) := L3.out.cR 2 2 rfl rfl
  have c3_2_3 : W3.cell? ⟨gr, 3, none⟩ = some (.int .u64 0) := L3.out.cR 2 3 rfl rfl
  have c3_2_4 : W3.cell? ⟨gr, 4, none⟩ = some (.int .u64 0) := L3.out.cR 2 4 rfl rfl
  have c3_2_5 : W3.cell? ⟨gr, 5, none⟩ = some (.bool false) := L3.out.cR 2 5 rfl rfl
  have hka : ∀ W', Lo w0 lo hi b rb q A (upd B 1 o v) (X ++ [bx g TQs #[.int .i64 1, .slice (some ⟨g1, o1, none⟩) n c1, .slice (some ⟨g2, o2, none⟩) n c2, .int .i64 ((k : Int) + 1)], rd .i64 (.slice (some ⟨g1, o1, none⟩) n c1) xs, bx gr 62 #[.int .i64 0, .int .i64 0, .int .i64 0, .int .u64 0, .int .u64 0, .bool false]]) W' → ((fun W : World => W.cell? ⟨g, 0, none⟩ = some (.int .i64 1) ∧ W.cell? ⟨g, 1, none⟩ = some (.slice (some ⟨g1, o1, none⟩) n c1) ∧ W.cell? ⟨g, 2, none⟩ = some (.slice (some ⟨g2, o2, none⟩) n c2) ∧ W.cell? ⟨g, 3, none⟩ = some (.int .i64 ((k : Int) + 1)) ∧ W.cell? ⟨g1, o1 + k, none⟩ = some (.int .i64 o) ∧ W.cell? ⟨g2, o2 + k, none⟩ = some (.int .u64 v)) W' ∧ (fun W : World => W.cell? ⟨g, 0, none⟩ = some (.int .i64 1) ∧ W.cell? ⟨g, 1, none⟩ = some (.slice (some ⟨g1, o1, none⟩) n c1) ∧ W.cell? ⟨g, 2, none⟩ = some (.slice (some ⟨g2, o2, none⟩) n c2) ∧ W.cell? ⟨g, 3, none⟩ = some (.int .i64 ((k : Int) + 1)) ∧ W.cell? ⟨g1, o1 + k, none⟩ = some (.int .i64 o) ∧ W.cell? ⟨g2, o2 + k, none⟩ = some (.int .u64 v)) (((((((W'.setCell ⟨gr, 0, none⟩ (.int .i64 2)).setCell ⟨gr, 1, none⟩ (.int .i64 1)).setCell ⟨gr, 2, none⟩ (.int .i64 o)).setCell ⟨gr, 3, none⟩ (.int .u64 x)).setCell ⟨gr, 4, none⟩ (.int .u64 v)).setCell ⟨gr, 5, none⟩ (.bool true))) ∧ Mem W' gr 62 #[.int .i64 0, .int .i64 0, .int .i64 0, .int .u64 0, .int .u64 0, .bool false]) := fun W' h => ⟨⟨h.cR 0 0 rfl rfl, h.cR 0 1 rfl rfl, h.cR 0 2 rfl rfl, h.cR 0 3 rfl rfl, h.rR 1 rfl k hxo, hvw _ h.old⟩, ⟨(h.sixR 2 rfl (.int .i64 2) (.int .i64 1) (.int .i64 o) (.int .u64 x) (.int .u64 v) (.bool true)).cR 0 0 rfl rfl, (h.sixR 2 rfl (.int .i64 2) (.int .i64 1) (.int .i64 o) (.int .u64 x) (.int .u64 v) (.bool true)).cR 0 1 rfl rfl, (h.sixR 2 rfl (.int .i64 2) (.int .i64 1) (.int .i64 o) (.int .u64 x) (.int .u64 v) (.bool true)).cR 0 2 rfl rfl, (h.sixR 2 rfl (.int .i64 2) (.int .i64 1) (.int .i64 o) (.int .u64 x) (.int .u64 v) (.bool true)).cR 0 3 rfl rfl, (h.sixR 2 rfl (.int .i64 2) (.int .i64 1) (.int .i64 o) (.int .u64 x) (.int .u64 v) (.bool true)).rR 1 rfl k hxo, hvw _ (h.sixR 2 rfl (.int .i64 2) (.int .i64 1) (.int .i64 o) (.int .u64 x) (.int .u64 v) (.bool true)).old⟩, h.memR 2 rfl⟩
  go_region_held3 (fun W : World => W.cell? ⟨g, 0, none⟩ = some (.int .i64 1) ∧ W.cell? ⟨g, 1, none⟩ = some (.slice (some ⟨g1, o1, none⟩) n c1) ∧ W.cell? ⟨g, 2, none⟩ = some (.slice (some ⟨g2, o2, none⟩) n c2) ∧ W.cell? ⟨g, 3, none⟩ = some (.int .i64 ((k : Int) + 1)) ∧ W.cell? ⟨g1, o1 + k, none⟩ = some (.int .i64 o) ∧ W.cell? ⟨g2, o2 + k, none⟩ = some (.int .u64 v)) (first | (with_reducible exact hs0) | (with_reducible assumption)) (first | (go_at_call 49; (with_reducible refine hc.mono ?_); rintro e w2' ⟨rfl, hL⟩; obtain ⟨hk1, hk2, m0⟩ := hka _ hL; have r0_0 := m0.cell 0; have r0_1 := m0.cell 1; have r0_2 := m0.cell 2; have r0_3 := m0.cell 3; have r0_4 := m0.cell 4; have r0_5 := m0.cell 5; have r0_z := m0.frozen))
  have L4 : Hid (Lo w0 lo hi b rb q A (upd B 1 o v) (X ++ [bx g TQs #[.int .i64 1, .slice (some ⟨g1, o1, none⟩) n c1, .slice (some ⟨g2, o2, none⟩) n c2, .int .i64 ((k : Int) + 1)], rd .i64 (.slice (some ⟨g1, o1, none⟩) n c1) xs, bx gr 62 #[.int .i64 0, .int .i64 0, .int .i64 0, .int .u64 0, .int .u64 0, .bool false]]) w2') := Lib.hid hL
  clear hs0 hc hka hk1 hk2 hL L3 c3_0_0 c3_0_1 c3_0_2 c3_0_3 ra rv c3_2_0 c3_2_1 c3_2_2 c3_2_3 c3_2_4 c3_2_5
  go_wp2
  have L5 : Hid (Lo w0 lo hi b rb q A (upd B 1 o v) (X ++ [bx g TQs #[.int .i64 1, .slice (some ⟨g1, o1, none⟩) n c1, .slice (some ⟨g2, o2, none⟩) n c2, .int .i64 ((k : Int) + 1)], rd .i64 (.slice (some ⟨g1, o1, none⟩) n c1) xs, bx gr 62 #[.int .i64 2, .int .i64 1, .int .i64 o, .int .u64 x, .int .u64 v, .bool true]]) (((((((w2'.setCell ⟨gr, 0, none⟩ (.int .i64 2)).setCell ⟨gr, 1, none⟩ (.int .i64 1)).setCell ⟨gr, 2, none⟩ (.int .i64 o)).setCell ⟨gr, 3, none⟩ (.int .u64 x)).setCell ⟨gr, 4, none⟩ (.int .u64 v)).setCell ⟨gr, 5, none⟩ (.bool true)))) := Lib.hid (L4.out.sixR 2 rfl (.int .i64 2) (.int .i64 1) (.int .i64 o) (.int .u64 x) (.int .u64 v) (.bool true))
  obtain ⟨V, hV⟩ : ∃ V, ((((((w2'.setCell ⟨gr, 0, none⟩ (.int .i64 2)).setCell ⟨gr, 1, none⟩ (.int .i64 1)).setCell ⟨gr, 2, none⟩ (.int .i64 o)).setCell ⟨gr, 3, none⟩ (.int .u64 x)).setCell ⟨gr, 4, none⟩ (.int .u64 v)).setCell ⟨gr, 5, none⟩ (.bool true)) = V := ⟨_, rfl⟩
  rw [hV] at L5 ⊢
  clear hV
  have hF : Lo w0 lo hi b rb q A (upd B 1 o v) (X ++ [bx g TQs #[.int .i64 1, .slice (some ⟨g1, o1, none⟩) n c1, .slice (some ⟨g2, o2, none⟩) n c2, .int .i64 ((k : Int) + 1)], rd .i64 (.slice (some ⟨g1, o1, none⟩) n c1) xs]) V := Lo.dropR (rs2 := [bx gr 62 #[.int .i64 2, .int .i64 1, .int .i64 o, .int .u64 x, .int .u64 v, .bool true]]) L5.out
  refine bodyPost_ret (v := .agg #[.int .i64 2, .int .i64 1, .int .i64 o, .int .u64 x, .int .u64 v, .bool true]) (results_cell_row rfl _ _ gr 62 #[.int .i64 2, .int .i64 1, .int .i64 o, .int .u64 x, .int .u64 v, .bool true] (0, 0) _ (by simp) (L5.out.memR 2 rfl) Try.underlying62 rfl (by kernel_rfl)) rfl ?_
  exact ⟨rfl, hF⟩

end Go.Proofs.Ytfondhajedkmbaa.WrA
