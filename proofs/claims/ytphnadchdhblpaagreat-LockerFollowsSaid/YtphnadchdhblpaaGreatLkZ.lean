/-
  Contracts of the reference of package locker, step by step, over both machines' cells and the machines' objects.
-/
import Derived.Test.YtphnadchdhblpaaGreatLkB
import Derived.Test.YtphnadchdhblpaaGreatSrtB
namespace Go.Proofs.YtphnadchdhblpaaGreat.LkZ
open Go.ChangeShapes Go.WideShapes Go.ChangeAt Go.RowKit
open PlainT BlkW LayS LayA LayH CelS CelM CelP CelV CelN CelO CelF LabD LabR LabP LabS LabX CelLo WordC RsA ObjA LkP SrtA SrtB LkA LkB
set_option linter.unusedVariables false
set_option maxHeartbeats 2000000
set_option maxRecDepth 400000

abbrev TQl : TypeId := 57
abbrev TQs : TypeId := 93

theorem rq_done {w : World} {g m n co c : Nat} {t f : Int} {p po : Option Addr} {r : Bool} (M : Mem w g TQl #[.int .i64 t, .slice p n c, .slice po m co, .bool r, .int .u64 f]) : Calls Tryz.prog 15 #[.pointer (some ⟨g, 0, none⟩)] w fun e w' => e = .returned (.bool (decide (m = n))) ∧ ∃ n, w' = w.drewN n := by
  have c1 := M.cell 1
  have c2 := M.cell 2
  simp at c1 c2
  clear M
  by_cases h : m = n
  · have hb : ((m : Int) == (n : Int)) = true := by rw [beq_iff_eq]; omega
    have hd : decide (m = n) = true := decide_eq_true h
    rw [hd]
    clear h hd
    go_enter Tryz.func15, Tryz.ntmps15
    go_upto_region 1 with (fail)
    go_quiet (fail)
    go_wp2
    go_ret
    exact ⟨rfl, nq, rfl⟩
  · have hb : ((m : Int) == (n : Int)) = false := by rw [beq_eq_false_iff_ne]; omega
    have hd : decide (m = n) = false := decide_eq_false h
    rw [hd]
    clear h hd
    go_enter Tryz.func15, Tryz.ntmps15
    go_upto_region 1 with (fail)
    go_quiet (fail)
    go_wp2
    go_ret
    exact ⟨rfl, nq, rfl⟩

theorem rq_over {w0 w : World} {lo hi b rb : Nat} {q : Cfg} {A B : Int → List Int} {X : List Ob} {g gl ol n c m co : Nat} {t f : Int} {Ao : Option Addr} {S ys : List Int} {r : Bool} (hmn : m = n) (h : Lo w0 lo hi b rb q A B (X ++ [bx g TQl #[.int .i64 t, .slice (some ⟨gl, ol, none⟩) n c, .slice Ao m co, .bool r, .int .u64 f], rd .i64 (.slice (some ⟨gl, ol, none⟩) n c) S, own .u64 TU (.slice Ao m co) ys]) w) : Calls Tryz.prog 19 #[.pointer (some ⟨g, 0, none⟩), .pointer (some ⟨rb, 0, none⟩)] w fun e w' => e = .returned (accV 0 0 0 0 0 false) ∧ Lo w0 lo hi b rb q A B (X ++ [bx g TQl #[.int .i64 t, .slice (some ⟨gl, ol, none⟩) n c, .slice Ao m co, .bool r, .int .u64 f], rd .i64 (.slice (some ⟨gl, ol, none⟩) n c) S, own .u64 TU (.slice Ao m co) ys]) w' := by
  have L0 := Lib.hid h
  clear h
  go_enter Tryz.func19, Tryz.ntmps19
  go_upto_region 1 with (fail)
  have L1 := Lib.hid (L0.out.newR 59 #[.int .i64 0, .int .i64 0, .int .i64 0, .int .u64 0, .int .u64 0, .bool false])
  obtain ⟨gr, hn⟩ : ∃ gr, w.heap.size = gr := ⟨_, rfl⟩
  rw [hn] at L1
  first | rw [hn] | skip
  clear hn
  obtain ⟨W1, hW⟩ : ∃ W', w.alloc (.cells #[.int .i64 0, .int .i64 0, .int .i64 0, .int .u64 0, .int .u64 0, .bool false] 59) = W' := ⟨_, rfl⟩
  rw [hW] at L1
  first | rw [hW] | skip
  clear hW
  have L1 : Hid (Lo w0 lo hi b rb q A B (X ++ [bx g TQl #[.int .i64 t, .slice (some ⟨gl, ol, none⟩) n c, .slice Ao m co, .bool r, .int .u64 f], rd .i64 (.slice (some ⟨gl, ol, none⟩) n c) S, own .u64 TU (.slice Ao m co) ys, bx gr 59 #[.int .i64 0, .int .i64 0, .int .i64 0, .int .u64 0, .int .u64 0, .bool false]]) W1) := L1
  clear L0
  have hdn := rq_done (L1.out.memR 0 rfl)
  rw [decide_eq_true hmn] at hdn
  go_upto_region 2 with ((go_at_call 15; (with_reducible refine hdn.mono ?_); rintro e w9 ⟨rfl, nq, rfl⟩))
  clear hdn
  have L2 : Hid (Lo w0 lo hi b rb q A B (X ++ [bx g TQl #[.int .i64 t, .slice (some ⟨gl, ol, none⟩) n c, .slice Ao m co, .bool r, .int .u64 f], rd .i64 (.slice (some ⟨gl, ol, none⟩) n c) S, own .u64 TU (.slice Ao m co) ys, bx gr 59 #[.int .i64 0, .int .i64 0, .int .i64 0, .int .u64 0, .int .u64 0, .bool false]]) (W1.drewN nq)) := Lib.hid (L1.out.drewN nq)
  obtain ⟨W2, hW⟩ : ∃ W', W1.drewN nq = W' := ⟨_, rfl⟩
  rw [hW] at L2
  first | rw [hW] | skip
  clear hW
  clear L1
  clear nq
  have c2_3_0 : W2.cell? ⟨gr, 0, none⟩ = some (.int .i64 0) := L2.out.cR 3 0 rfl rfl
  have z2_3_0 : W2.frozen? ⟨gr, 0, none⟩ = false := L2.out.zR 3 0 rfl
  have c2_3_1 : W2.cell? ⟨gr, 1, none⟩ = some (.int .i64 0) := L2.out.cR 3 1 rfl rfl
  have z2_3_1 : W2.frozen? ⟨gr, 1, none⟩ = false := L2.out.zR 3 1 rfl
  have c2_3_2 : W2.cell? ⟨gr, 2, none⟩ = some (.int .i64 0) := L2.out.cR 3 2 rfl rfl
  have z2_3_2 : W2.frozen? ⟨gr, 2, none⟩ = false := L2.out.zR 3 2 rfl
  have c2_3_3 : W2.cell? ⟨gr, 3, none⟩ = some (.int .u64 0) := L2.out.cR 3 3 rfl rfl
  have z2_3_3 : W2.frozen? ⟨gr, 3, none⟩ = false := L2.out.zR 3 3 rfl
  have c2_3_4 : W2.cell? ⟨gr, 4, none⟩ = some (.int .u64 0) := L2.out.cR 3 4 rfl rfl
  have z2_3_4 : W2.frozen? ⟨gr, 4, none⟩ = false := L2.out.zR 3 4 rfl
  have c2_3_5 : W2.cell? ⟨gr, 5, none⟩ = some (.bool false) := L2.out.cR 3 5 rfl rfl
  have z2_3_5 : W2.frozen? ⟨gr, 5, none⟩ = false := L2.out.zR 3 5 rfl
  go_wp2
  have L3 : Hid (Lo w0 lo hi b rb q A B (X ++ [bx g TQl #[.int .i64 t, .slice (some ⟨gl, ol, none⟩) n c, .slice Ao m co, .bool r, .int .u64 f], rd .i64 (.slice (some ⟨gl, ol, none⟩) n c) S, own .u64 TU (.slice Ao m co) ys, bx gr 59 #[.int .i64 0, .int .i64 0, .int .i64 0, .int .u64 0, .int .u64 0, .bool false]]) (((((((W2.setCell ⟨gr, 0, none⟩ (.int .i64 0)).setCell ⟨gr, 1, none⟩ (.int .i64 0)).setCell ⟨gr, 2, none⟩ (.int .i64 0)).setCell ⟨gr, 3, none⟩ (.int .u64 0)).setCell ⟨gr, 4, none⟩ (.int .u64 0)).setCell ⟨gr, 5, none⟩ (.bool false)))) := Lib.hid (L2.out.sixR 3 rfl (.int .i64 0) (.int .i64 0) (.int .i64 0) (.int .u64 0) (.int .u64 0) (.bool false))
  obtain ⟨V, hV⟩ : ∃ V, ((((((W2.setCell ⟨gr, 0, none⟩ (.int .i64 0)).setCell ⟨gr, 1, none⟩ (.int .i64 0)).setCell ⟨gr, 2, none⟩ (.int .i64 0)).setCell ⟨gr, 3, none⟩ (.int .u64 0)).setCell ⟨gr, 4, none⟩ (.int .u64 0)).setCell ⟨gr, 5, none⟩ (.bool false)) = V := ⟨_, rfl⟩
  rw [hV] at L3 ⊢
  clear hV
  have hF : Lo w0 lo hi b rb q A B (X ++ [bx g TQl #[.int .i64 t, .slice (some ⟨gl, ol, none⟩) n c, .slice Ao m co, .bool r, .int .u64 f], rd .i64 (.slice (some ⟨gl, ol, none⟩) n c) S, own .u64 TU (.slice Ao m co) ys]) V := Lo.dropR (rs2 := [bx gr 59 #[.int .i64 0, .int .i64 0, .int .i64 0, .int .u64 0, .int .u64 0, .bool false]]) L3.out
  refine bodyPost_ret (v := .agg #[.int .i64 0, .int .i64 0, .int .i64 0, .int .u64 0, .int .u64 0, .bool false]) (results_cell_row rfl _ _ gr 59 #[.int .i64 0, .int .i64 0, .int .i64 0, .int .u64 0, .int .u64 0, .bool false] (0, 0) _ (by simp) (L3.out.memR 3 rfl) Tryz.underlying59 rfl (by kernel_rfl)) rfl ?_
  exact ⟨rfl, hF⟩

theorem rq_look_free {w0 w : World} {lo hi b rb : Nat} {q : Cfg} {A B : Int → List Int} {X : List Ob} {g gl ol n c m co : Nat} {t f : Int} {Ao : Option Addr} {S ys : List Int} {o : Nat} (hl : o < (B 2).length) {x : Int} (hx : (B 2).getD o 0 = x) (x0 : 0 ≤ x) (x1 : x ≤ 18446744073709551615) (hmn : m < n) (hSo : S[m]? = some (o : Int)) {t2 : Int} (ht : x % 64 - 1 = t2) (hh : decide (t2 < 0) = true) (h : Lo w0 lo hi b rb q A B (X ++ [bx g TQl #[.int .i64 t, .slice (some ⟨gl, ol, none⟩) n c, .slice Ao m co, .bool false, .int .u64 f], rd .i64 (.slice (some ⟨gl, ol, none⟩) n c) S, own .u64 TU (.slice Ao m co) ys]) w) : Calls Tryz.prog 19 #[.pointer (some ⟨g, 0, none⟩), .pointer (some ⟨rb, 0, none⟩)] w fun e w' => e = .returned (accV 1 2 o x x true) ∧ Lo w0 lo hi b rb q A B (X ++ [bx g TQl #[.int .i64 t, .slice (some ⟨gl, ol, none⟩) n c, .slice Ao m co, .bool true, .int .u64 x], rd .i64 (.slice (some ⟨gl, ol, none⟩) n c) S, own .u64 TU (.slice Ao m co) ys]) w' := by
  have L0 := Lib.hid h
  clear h
  go_enter Tryz.func19, Tryz.ntmps19
  go_upto_region 1 with (fail)
  have L1 := Lib.hid (L0.out.newR 59 #[.int .i64 0, .int .i64 0, .int .i64 0, .int .u64 0, .int .u64 0, .bool false])
  obtain ⟨gr, hn⟩ : ∃ gr, w.heap.size = gr := ⟨_, rfl⟩
  rw [hn] at L1
  first | rw [hn] | skip
  clear hn
  obtain ⟨W1, hW⟩ : ∃ W', w.alloc (.cells #[.int .i64 0, .int .i64 0, .int .i64 0, .int .u64 0, .int .u64 0, .bool false] 59) = W' := ⟨_, rfl⟩
  rw [hW] at L1
  first | rw [hW] | skip
  clear hW
  have L1 : Hid (Lo w0 lo hi b rb q A B (X ++ [bx g TQl #[.int .i64 t, .slice (some ⟨gl, ol, none⟩) n c, .slice Ao m co, .bool false, .int .u64 f], rd .i64 (.slice (some ⟨gl, ol, none⟩) n c) S, own .u64 TU (.slice Ao m co) ys, bx gr 59 #[.int .i64 0, .int .i64 0, .int .i64 0, .int .u64 0, .int .u64 0, .bool false]]) W1) := L1
  clear L0
  have hdn := rq_done (L1.out.memR 0 rfl)
  rw [show decide (m = n) = false by simp; omega] at hdn
  go_upto_region 3 with ((go_at_call 15; (with_reducible refine hdn.mono ?_); rintro e w9 ⟨rfl, nq, rfl⟩))
  clear hdn
  have L2 : Hid (Lo w0 lo hi b rb q A B (X ++ [bx g TQl #[.int .i64 t, .slice (some ⟨gl, ol, none⟩) n c, .slice Ao m co, .bool false, .int .u64 f], rd .i64 (.slice (some ⟨gl, ol, none⟩) n c) S, own .u64 TU (.slice Ao m co) ys, bx gr 59 #[.int .i64 0, .int .i64 0, .int .i64 0, .int .u64 0, .int .u64 0, .bool false]]) (W1.drewN nq)) := Lib.hid (L1.out.drewN nq)
  obtain ⟨W2, hW⟩ : ∃ W', W1.drewN nq = W' := ⟨_, rfl⟩
  rw [hW] at L2
  first | rw [hW] | skip
  clear hW
  clear L1
  clear nq
  have c2_0_1 : W2.cell? ⟨g, 1, none⟩ = some (.slice (some ⟨gl, ol, none⟩) n c) := L2.out.cR 0 1 rfl rfl
  have c2_0_2 : W2.cell? ⟨g, 2, none⟩ = some (.slice Ao m co) := L2.out.cR 0 2 rfl rfl
  have ro : W2.cell? ⟨gl, ol + m, none⟩ = some (.int .i64 o) := L2.out.rR 1 rfl m hSo
  have hmI : (m : Int) < n := by omega
  have hm0 : (0 : Int) ≤ m := by omega
  go_quiet (fail)
  have L3 : Hid (Lo w0 lo hi b rb q A B (X ++ [bx g TQl #[.int .i64 t, .slice (some ⟨gl, ol, none⟩) n c, .slice Ao m co, .bool false, .int .u64 f], rd .i64 (.slice (some ⟨gl, ol, none⟩) n c) S, own .u64 TU (.slice Ao m co) ys, bx gr 59 #[.int .i64 0, .int .i64 0, .int .i64 0, .int .u64 0, .int .u64 0, .bool false]]) (W2.drewN nq)) := Lib.hid (L2.out.drewN nq)
  obtain ⟨W3, hW⟩ : ∃ W', W2.drewN nq = W' := ⟨_, rfl⟩
  rw [hW] at L3
  first | rw [hW] | skip
  clear hW
  clear L2 c2_0_1 c2_0_2 ro
  clear nq
  have c3_0_3 : W3.cell? ⟨g, 3, none⟩ = some (.bool false) := L3.out.cR 0 3 rfl rfl
  have hc := ro_load L3.out 2 (by decide) o hl x hx
  go_upto_region 6 with ((go_at_call 41; refine hc.mono ?_; rintro e w1 ⟨rfl, hL⟩))
  have L4 : Hid (Lo w0 lo hi b rb q A B (X ++ [bx g TQl #[.int .i64 t, .slice (some ⟨gl, ol, none⟩) n c, .slice Ao m co, .bool false, .int .u64 f], rd .i64 (.slice (some ⟨gl, ol, none⟩) n c) S, own .u64 TU (.slice Ao m co) ys, bx gr 59 #[.int .i64 0, .int .i64 0, .int .i64 0, .int .u64 0, .int .u64 0, .bool false]]) w1) := Lib.hid hL
  clear hc hL L3 c3_0_3
  have L5 := Lib.hid (L4.out.newR 59 #[.int .i64 1, .int .i64 2, .int .i64 o, .int .u64 x, .int .u64 x, .bool true])
  obtain ⟨ga, hn⟩ : ∃ ga, w1.heap.size = ga := ⟨_, rfl⟩
  rw [hn] at L5
  first | rw [hn] | skip
  clear hn
  obtain ⟨W5, hW⟩ : ∃ W', w1.alloc (.cells #[.int .i64 1, .int .i64 2, .int .i64 o, .int .u64 x, .int .u64 x, .bool true] 59) = W' := ⟨_, rfl⟩
  rw [hW] at L5
  first | rw [hW] | skip
  clear hW
  have L5 : Hid (Lo w0 lo hi b rb q A B (X ++ [bx g TQl #[.int .i64 t, .slice (some ⟨gl, ol, none⟩) n c, .slice Ao m co, .bool false, .int .u64 f], rd .i64 (.slice (some ⟨gl, ol, none⟩) n c) S, own .u64 TU (.slice Ao m co) ys, bx gr 59 #[.int .i64 0, .int .i64 0, .int .i64 0, .int .u64 0, .int .u64 0, .bool false], bx ga 59 #[.int .i64 1, .int .i64 2, .int .i64 o, .int .u64 x, .int .u64 x, .bool true]]) W5) := L5
  clear L4
  have c5_4_3 : W5.cell? ⟨ga, 3, none⟩ = some (.int .u64 x) := L5.out.cR 4 3 rfl rfl
  have c5_0_4 : W5.cell? ⟨g, 4, none⟩ = some (.int .u64 f) := L5.out.cR 0 4 rfl rfl
  have z5_0_4 : W5.frozen? ⟨g, 4, none⟩ = false := L5.out.zR 0 4 rfl
  go_upto_region 7 with (fail)
  have L6 : Hid (Lo w0 lo hi b rb q A B (X ++ [bx g TQl #[.int .i64 t, .slice (some ⟨gl, ol, none⟩) n c, .slice Ao m co, .bool false, .int .u64 x], rd .i64 (.slice (some ⟨gl, ol, none⟩) n c) S, own .u64 TU (.slice Ao m co) ys, bx gr 59 #[.int .i64 0, .int .i64 0, .int .i64 0, .int .u64 0, .int .u64 0, .bool false], bx ga 59 #[.int .i64 1, .int .i64 2, .int .i64 o, .int .u64 x, .int .u64 x, .bool true]]) (W5.setCell ⟨g, 4, none⟩ (.int .u64 x))) := Lib.hid (L5.out.putR 0 4 (.int .u64 x) rfl (by rfl))
  obtain ⟨W6, hW⟩ : ∃ W', W5.setCell ⟨g, 4, none⟩ (.int .u64 x) = W' := ⟨_, rfl⟩
  rw [hW] at L6
  first | rw [hW] | skip
  clear hW
  clear L5 c5_4_3 c5_0_4 z5_0_4
  have hho := r_holder x x0 (by omega)
  simp only [ht] at hho
  have hdt : decide (t2 < 0) = true := hh
  have c6_4_3 : W6.cell? ⟨ga, 3, none⟩ = some (.int .u64 x) := L6.out.cR 4 3 rfl rfl
  have c6_0_3 : W6.cell? ⟨g, 3, none⟩ = some (.bool false) := L6.out.cR 0 3 rfl rfl
  have z6_0_3 : W6.frozen? ⟨g, 3, none⟩ = false := L6.out.zR 0 3 rfl
  go_upto_region 8 with ((go_at_call 42; (with_reducible refine (hho _).mono ?_); rintro e w9 ⟨rfl, rfl⟩))
  have L7 : Hid (Lo w0 lo hi b rb q A B (X ++ [bx g TQl #[.int .i64 t, .slice (some ⟨gl, ol, none⟩) n c, .slice Ao m co, .bool true, .int .u64 x], rd .i64 (.slice (some ⟨gl, ol, none⟩) n c) S, own .u64 TU (.slice Ao m co) ys, bx gr 59 #[.int .i64 0, .int .i64 0, .int .i64 0, .int .u64 0, .int .u64 0, .bool false], bx ga 59 #[.int .i64 1, .int .i64 2, .int .i64 o, .int .u64 x, .int .u64 x, .bool true]]) (W6.setCell ⟨g, 3, none⟩ (.bool true))) := Lib.hid (L6.out.putR 0 3 (.bool true) rfl (by rfl))
  obtain ⟨W7, hW⟩ : ∃ W', W6.setCell ⟨g, 3, none⟩ (.bool true) = W' := ⟨_, rfl⟩
  rw [hW] at L7
  first | rw [hW] | skip
  clear hW
  clear L6 c6_4_3 c6_0_3 z6_0_3
  clear hho ht hh hdt
  have c7_3_0 : W7.cell? ⟨gr, 0, none⟩ = some (.int .i64 0) := L7.out.cR 3 0 rfl rfl
  have z7_3_0 : W7.frozen? ⟨gr, 0, none⟩ = false := L7.out.zR 3 0 rfl
  have c7_4_0 : W7.cell? ⟨ga, 0, none⟩ = some (.int .i64 1) := L7.out.cR 4 0 rfl rfl
  have c7_3_1 : W7.cell? ⟨gr, 1, none⟩ = some (.int .i64 0) := L7.out.cR 3 1 rfl rfl
  have z7_3_1 : W7.frozen? ⟨gr, 1, none⟩ = false := L7.out.zR 3 1 rfl
  have c7_4_1 : W7.cell? ⟨ga, 1, none⟩ = some (.int .i64 2) := L7.out.cR 4 1 rfl rfl
  have c7_3_2 : W7.cell? ⟨gr, 2, none⟩ = some (.int .i64 0) := L7.out.cR 3 2 rfl rfl
  have z7_3_2 : W7.frozen? ⟨gr, 2, none⟩ = false := L7.out.zR 3 2 rfl
  have c7_4_2 : W7.cell? ⟨ga, 2, none⟩ = some (.int .i64 o) := L7.out.cR 4 2 rfl rfl
  have c7_3_3 : W7.cell? ⟨gr, 3, none⟩ = some (.int .u64 0) := L7.out.cR 3 3 rfl rfl
  have z7_3_3 : W7.frozen? ⟨gr, 3, none⟩ = false := L7.out.zR 3 3 rfl
  have c7_4_3 : W7.cell? ⟨ga, 3, none⟩ = some (.int .u64 x) := L7.out.cR 4 3 rfl rfl
  have c7_3_4 : W7.cell? ⟨gr, 4, none⟩ = some (.int .u64 0) := L7.out.cR 3 4 rfl rfl
  have z7_3_4 : W7.frozen? ⟨gr, 4, none⟩ = false := L7.out.zR 3 4 rfl
  have c7_4_4 : W7.cell? ⟨ga, 4, none⟩ = some (.int .u64 x) := L7.out.cR 4 4 rfl rfl
  have c7_3_5 : W7.cell? ⟨gr, 5, none⟩ = some (.bool false) := L7.out.cR 3 5 rfl rfl
  have z7_3_5 : W7.frozen? ⟨gr, 5, none⟩ = false := L7.out.zR 3 5 rfl
  have c7_4_5 : W7.cell? ⟨ga, 5, none⟩ = some (.bool true) := L7.out.cR 4 5 rfl rfl
  go_wp2
  have L8 : Hid (Lo w0 lo hi b rb q A B (X ++ [bx g TQl #[.int .i64 t, .slice (some ⟨gl, ol, none⟩) n c, .slice Ao m co, .bool true, .int .u64 x], rd .i64 (.slice (some ⟨gl, ol, none⟩) n c) S, own .u64 TU (.slice Ao m co) ys, bx gr 59 #[.int .i64 1, .int .i64 2, .int .i64 o, .int .u64 x, .int .u64 x, .bool true], bx ga 59 #[.int .i64 1, .int .i64 2, .int .i64 o, .int .u64 x, .int .u64 x, .bool true]]) (((((((W7.setCell ⟨gr, 0, none⟩ (.int .i64 1)).setCell ⟨gr, 1, none⟩ (.int .i64 2)).setCell ⟨gr, 2, none⟩ (.int .i64 o)).setCell ⟨gr, 3, none⟩ (.int .u64 x)).setCell ⟨gr, 4, none⟩ (.int .u64 x)).setCell ⟨gr, 5, none⟩ (.bool true)))) := Lib.hid (L7.out.sixR 3 rfl (.int .i64 1) (.int .i64 2) (.int .i64 o) (.int .u64 x) (.int .u64 x) (.bool true))
  obtain ⟨V, hV⟩ : ∃ V, ((((((W7.setCell ⟨gr, 0, none⟩ (.int .i64 1)).setCell ⟨gr, 1, none⟩ (.int .i64 2)).setCell ⟨gr, 2, none⟩ (.int .i64 o)).setCell ⟨gr, 3, none⟩ (.int .u64 x)).setCell ⟨gr, 4, none⟩ (.int .u64 x)).setCell ⟨gr, 5, none⟩ (.bool true)) = V := ⟨_, rfl⟩
  rw [hV] at L8 ⊢
  clear hV
  have hF : Lo w0 lo hi b rb q A B (X ++ [bx g TQl #[.int .i64 t, .slice (some ⟨gl, ol, none⟩) n c, .slice Ao m co, .bool true, .int .u64 x], rd .i64 (.slice (some ⟨gl, ol, none⟩) n c) S, own .u64 TU (.slice Ao m co) ys]) V := Lo.dropR (rs2 := [bx gr 59 #[.int .i64 1, .int .i64 2, .int .i64 o, .int .u64 x, .int .u64 x, .bool true], bx ga 59 #[.int .i64 1, .int .i64 2, .int .i64 o, .int .u64 x, .int .u64 x, .bool true]]) L8.out
  refine bodyPost_ret (v := .agg #[.int .i64 1, .int .i64 2, .int .i64 o, .int .u64 x, .int .u64 x, .bool true]) (results_cell_row rfl _ _ gr 59 #[.int .i64 1, .int .i64 2, .int .i64 o, .int .u64 x, .int .u64 x, .bool true] (0, 0) _ (by simp) (L8.out.memR 3 rfl) Tryz.underlying59 rfl (by kernel_rfl)) rfl ?_
  exact ⟨rfl, hF⟩

theorem rq_look_held {w0 w : World} {lo hi b rb : Nat} {q : Cfg} {A B : Int → List Int} {X : List Ob} {g gl ol n c m co : Nat} {t f : Int} {Ao : Option Addr} {S ys : List Int} {o : Nat} (hl : o < (B 2).length) {x : Int} (hx : (B 2).getD o 0 = x) (x0 : 0 ≤ x) (x1 : x ≤ 18446744073709551615) (hmn : m < n) (hSo : S[m]? = some (o : Int)) {t2 : Int} (ht : x % 64 - 1 = t2) (hh : decide (t2 < 0) = false) (h : Lo w0 lo hi b rb q A B (X ++ [bx g TQl #[.int .i64 t, .slice (some ⟨gl, ol, none⟩) n c, .slice Ao m co, .bool false, .int .u64 f], rd .i64 (.slice (some ⟨gl, ol, none⟩) n c) S, own .u64 TU (.slice Ao m co) ys]) w) : Calls Tryz.prog 19 #[.pointer (some ⟨g, 0, none⟩), .pointer (some ⟨rb, 0, none⟩)] w fun e w' => e = .returned (accV 1 2 o x x true) ∧ Lo w0 lo hi b rb q A B (X ++ [bx g TQl #[.int .i64 t, .slice (some ⟨gl, ol, none⟩) n c, .slice Ao m co, .bool false, .int .u64 x], rd .i64 (.slice (some ⟨gl, ol, none⟩) n c) S, own .u64 TU (.slice Ao m co) ys]) w' := by
  have L0 := Lib.hid h
  clear h
  go_enter Tryz.func19, Tryz.ntmps19
  go_upto_region 1 with (fail)
  have L1 := Lib.hid (L0.out.newR 59 #[.int .i64 0, .int .i64 0, .int .i64 0, .int .u64 0, .int .u64 0, .bool false])
  obtain ⟨gr, hn⟩ : ∃ gr, w.heap.size = gr := ⟨_, rfl⟩
  rw [hn] at L1
  first | rw [hn] | skip
  clear hn
  obtain ⟨W1, hW⟩ : ∃ W', w.alloc (.cells #[.int .i64 0, .int .i64 0, .int .i64 0, .int .u64 0, .int .u64 0, .bool false] 59) = W' := ⟨_, rfl⟩
  rw [hW] at L1
  first | rw [hW] | skip
  clear hW
  have L1 : Hid (Lo w0 lo hi b rb q A B (X ++ [bx g TQl #[.int .i64 t, .slice (some ⟨gl, ol, none⟩) n c, .slice Ao m co, .bool false, .int .u64 f], rd .i64 (.slice (some ⟨gl, ol, none⟩) n c) S, own .u64 TU (.slice Ao m co) ys, bx gr 59 #[.int .i64 0, .int .i64 0, .int .i64 0, .int .u64 0, .int .u64 0, .bool false]]) W1) := L1
  clear L0
  have hdn := rq_done (L1.out.memR 0 rfl)
  rw [show decide (m = n) = false by simp; omega] at hdn
  go_upto_region 3 with ((go_at_call 15; (with_reducible refine hdn.mono ?_); rintro e w9 ⟨rfl, nq, rfl⟩))
  clear hdn
  have L2 : Hid (Lo w0 lo hi b rb q A B (X ++ [bx g TQl #[.int .i64 t, .slice (some ⟨gl, ol, none⟩) n c, .slice Ao m co, .bool false, .int .u64 f], rd .i64 (.slice (some ⟨gl, ol, none⟩) n c) S, own .u64 TU (.slice Ao m co) ys, bx gr 59 #[.int .i64 0, .int .i64 0, .int .i64 0, .int .u64 0, .int .u64 0, .bool false]]) (W1.drewN nq)) := Lib.hid (L1.out.drewN nq)
  obtain ⟨W2, hW⟩ : ∃ W', W1.drewN nq = W' := ⟨_, rfl⟩
  rw [hW] at L2
  first | rw [hW] | skip
  clear hW
  clear L1
  clear nq
  have c2_0_1 : W2.cell? ⟨g, 1, none⟩ = some (.slice (some ⟨gl, ol, none⟩) n c) := L2.out.cR 0 1 rfl rfl
  have c2_0_2 : W2.cell? ⟨g, 2, none⟩ = some (.slice Ao m co) := L2.out.cR 0 2 rfl rfl
  have ro : W2.cell? ⟨gl, ol + m, none⟩ = some (.int .i64 o) := L2.out.rR 1 rfl m hSo
  have hmI : (m : Int) < n := by omega
  have hm0 : (0 : Int) ≤ m := by omega
  go_quiet (fail)
  have L3 : Hid (Lo w0 lo hi b rb q A B (X ++ [bx g TQl #[.int .i64 t, .slice (some ⟨gl, ol, none⟩) n c, .slice Ao m co, .bool false, .int .u64 f], rd .i64 (.slice (some ⟨gl, ol, none⟩) n c) S, own .u64 TU (.slice Ao m co) ys, bx gr 59 #[.int .i64 0, .int .i64 0, .int .i64 0, .int .u64 0, .int .u64 0, .bool false]]) (W2.drewN nq)) := Lib.hid (L2.out.drewN nq)
  obtain ⟨W3, hW⟩ : ∃ W', W2.drewN nq = W' := ⟨_, rfl⟩
  rw [hW] at L3
  first | rw [hW] | skip
  clear hW
  clear L2 c2_0_1 c2_0_2 ro
  clear nq
  have c3_0_3 : W3.cell? ⟨g, 3, none⟩ = some (.bool false) := L3.out.cR 0 3 rfl rfl
  have hc := ro_load L3.out 2 (by decide) o hl x hx
  go_upto_region 6 with ((go_at_call 41; refine hc.mono ?_; rintro e w1 ⟨rfl, hL⟩))
  have L4 : Hid (Lo w0 lo hi b rb q A B (X ++ [bx g TQl #[.int .i64 t, .slice (some ⟨gl, ol, none⟩) n c, .slice Ao m co, .bool false, .int .u64 f], rd .i64 (.slice (some ⟨gl, ol, none⟩) n c) S, own .u64 TU (.slice Ao m co) ys, bx gr 59 #[.int .i64 0, .int .i64 0, .int .i64 0, .int .u64 0, .int .u64 0, .bool false]]) w1) := Lib.hid hL
  clear hc hL L3 c3_0_3
  have L5 := Lib.hid (L4.out.newR 59 #[.int .i64 1, .int .i64 2, .int .i64 o, .int .u64 x, .int .u64 x, .bool true])
  obtain ⟨ga, hn⟩ : ∃ ga, w1.heap.size = ga := ⟨_, rfl⟩
  rw [hn] at L5
  first | rw [hn] | skip
  clear hn
  obtain ⟨W5, hW⟩ : ∃ W', w1.alloc (.cells #[.int .i64 1, .int .i64 2, .int .i64 o, .int .u64 x, .int .u64 x, .bool true] 59) = W' := ⟨_, rfl⟩
  rw [hW] at L5
  first | rw [hW] | skip
  clear hW
  have L5 : Hid (Lo w0 lo hi b rb q A B (X ++ [bx g TQl #[.int .i64 t, .slice (some ⟨gl, ol, none⟩) n c, .slice Ao m co, .bool false, .int .u64 f], rd .i64 (.slice (some ⟨gl, ol, none⟩) n c) S, own .u64 TU (.slice Ao m co) ys, bx gr 59 #[.int .i64 0, .int .i64 0, .int .i64 0, .int .u64 0, .int .u64 0, .bool false], bx ga 59 #[.int .i64 1, .int .i64 2, .int .i64 o, .int .u64 x, .int .u64 x, .bool true]]) W5) := L5
  clear L4
  have c5_4_3 : W5.cell? ⟨ga, 3, none⟩ = some (.int .u64 x) := L5.out.cR 4 3 rfl rfl
  have c5_0_4 : W5.cell? ⟨g, 4, none⟩ = some (.int .u64 f) := L5.out.cR 0 4 rfl rfl
  have z5_0_4 : W5.frozen? ⟨g, 4, none⟩ = false := L5.out.zR 0 4 rfl
  go_upto_region 7 with (fail)
  have L6 : Hid (Lo w0 lo hi b rb q A B (X ++ [bx g TQl #[.int .i64 t, .slice (some ⟨gl, ol, none⟩) n c, .slice Ao m co, .bool false, .int .u64 x], rd .i64 (.slice (some ⟨gl, ol, none⟩) n c) S, own .u64 TU (.slice Ao m co) ys, bx gr 59 #[.int .i64 0, .int .i64 0, .int .i64 0, .int .u64 0, .int .u64 0, .bool false], bx ga 59 #[.int .i64 1, .int .i64 2, .int .i64 o, .int .u64 x, .int .u64 x, .bool true]]) (W5.setCell ⟨g, 4, none⟩ (.int .u64 x))) := Lib.hid (L5.out.putR 0 4 (.int .u64 x) rfl (by rfl))
  obtain ⟨W6, hW⟩ : ∃ W', W5.setCell ⟨g, 4, none⟩ (.int .u64 x) = W' := ⟨_, rfl⟩
  rw [hW] at L6
  first | rw [hW] | skip
  clear hW
  clear L5 c5_4_3 c5_0_4 z5_0_4
  have hho := r_holder x x0 (by omega)
  simp only [ht] at hho
  have hdt : decide (t2 < 0) = false := hh
  have c6_4_3 : W6.cell? ⟨ga, 3, none⟩ = some (.int .u64 x) := L6.out.cR 4 3 rfl rfl
  have c6_0_3 : W6.cell? ⟨g, 3, none⟩ = some (.bool false) := L6.out.cR 0 3 rfl rfl
  have z6_0_3 : W6.frozen? ⟨g, 3, none⟩ = false := L6.out.zR 0 3 rfl
  go_upto_region 8 with ((go_at_call 42; (with_reducible refine (hho _).mono ?_); rintro e w9 ⟨rfl, rfl⟩))
  have L7 : Hid (Lo w0 lo hi b rb q A B (X ++ [bx g TQl #[.int .i64 t, .slice (some ⟨gl, ol, none⟩) n c, .slice Ao m co, .bool false, .int .u64 x], rd .i64 (.slice (some ⟨gl, ol, none⟩) n c) S, own .u64 TU (.slice Ao m co) ys, bx gr 59 #[.int .i64 0, .int .i64 0, .int .i64 0, .int .u64 0, .int .u64 0, .bool false], bx ga 59 #[.int .i64 1, .int .i64 2, .int .i64 o, .int .u64 x, .int .u64 x, .bool true]]) (W6.setCell ⟨g, 3, none⟩ (.bool false))) := Lib.hid (L6.out.putR 0 3 (.bool false) rfl (by rfl))
  obtain ⟨W7, hW⟩ : ∃ W', W6.setCell ⟨g, 3, none⟩ (.bool false) = W' := ⟨_, rfl⟩
  rw [hW] at L7
  first | rw [hW] | skip
  clear hW
  clear L6 c6_4_3 c6_0_3 z6_0_3
  clear hho ht hh hdt
  have c7_3_0 : W7.cell? ⟨gr, 0, none⟩ = some (.int .i64 0) := L7.out.cR 3 0 rfl rfl
  have z7_3_0 : W7.frozen? ⟨gr, 0, none⟩ = false := L7.out.zR 3 0 rfl
  have c7_4_0 : W7.cell? ⟨ga, 0, none⟩ = some (.int .i64 1) := L7.out.cR 4 0 rfl rfl
  have c7_3_1 : W7.cell? ⟨gr, 1, none⟩ = some (.int .i64 0) := L7.out.cR 3 1 rfl rfl
  have z7_3_1 : W7.frozen? ⟨gr, 1, none⟩ = false := L7.out.zR 3 1 rfl
  have c7_4_1 : W7.cell? ⟨ga, 1, none⟩ = some (.int .i64 2) := L7.out.cR 4 1 rfl rfl
  have c7_3_2 : W7.cell? ⟨gr, 2, none⟩ = some (.int .i64 0) := L7.out.cR 3 2 rfl rfl
  have z7_3_2 : W7.frozen? ⟨gr, 2, none⟩ = false := L7.out.zR 3 2 rfl
  have c7_4_2 : W7.cell? ⟨ga, 2, none⟩ = some (.int .i64 o) := L7.out.cR 4 2 rfl rfl
  have c7_3_3 : W7.cell? ⟨gr, 3, none⟩ = some (.int .u64 0) := L7.out.cR 3 3 rfl rfl
  have z7_3_3 : W7.frozen? ⟨gr, 3, none⟩ = false := L7.out.zR 3 3 rfl
  have c7_4_3 : W7.cell? ⟨ga, 3, none⟩ = some (.int .u64 x) := L7.out.cR 4 3 rfl rfl
  have c7_3_4 : W7.cell? ⟨gr, 4, none⟩ = some (.int .u64 0) := L7.out.cR 3 4 rfl rfl
  have z7_3_4 : W7.frozen? ⟨gr, 4, none⟩ = false := L7.out.zR 3 4 rfl
  have c7_4_4 : W7.cell? ⟨ga, 4, none⟩ = some (.int .u64 x) := L7.out.cR 4 4 rfl rfl
  have c7_3_5 : W7.cell? ⟨gr, 5, none⟩ = some (.bool false) := L7.out.cR 3 5 rfl rfl
  have z7_3_5 : W7.frozen? ⟨gr, 5, none⟩ = false := L7.out.zR 3 5 rfl
  have c7_4_5 : W7.cell? ⟨ga, 5, none⟩ = some (.bool true) := L7.out.cR 4 5 rfl rfl
  go_wp2
  have L8 : Hid (Lo w0 lo hi b rb q A B (X ++ [bx g TQl #[.int .i64 t, .slice (some ⟨gl, ol, none⟩) n c, .slice Ao m co, .bool false, .int .u64 x], rd .i64 (.slice (some ⟨gl, ol, none⟩) n c) S, own .u64 TU (.slice Ao m co) ys, bx gr 59 #[.int .i64 1, .int .i64 2, .int .i64 o, .int .u64 x, .int .u64 x, .bool true], bx ga 59 #[.int .i64 1, .int .i64 2, .int .i64 o, .int .u64 x, .int .u64 x, .bool true]]) (((((((W7.setCell ⟨gr, 0, none⟩ (.int .i64 1)).setCell ⟨gr, 1, none⟩ (.int .i64 2)).setCell ⟨gr, 2, none⟩ (.int .i64 o)).setCell ⟨gr, 3, none⟩ (.int .u64 x)).setCell ⟨gr, 4, none⟩ (.int .u64 x)).setCell ⟨gr, 5, none⟩ (.bool true)))) := Lib.hid (L7.out.sixR 3 rfl (.int .i64 1) (.int .i64 2) (.int .i64 o) (.int .u64 x) (.int .u64 x) (.bool true))
  obtain ⟨V, hV⟩ : ∃ V, ((((((W7.setCell ⟨gr, 0, none⟩ (.int .i64 1)).setCell ⟨gr, 1, none⟩ (.int .i64 2)).setCell ⟨gr, 2, none⟩ (.int .i64 o)).setCell ⟨gr, 3, none⟩ (.int .u64 x)).setCell ⟨gr, 4, none⟩ (.int .u64 x)).setCell ⟨gr, 5, none⟩ (.bool true)) = V := ⟨_, rfl⟩
  rw [hV] at L8 ⊢
  clear hV
  have hF : Lo w0 lo hi b rb q A B (X ++ [bx g TQl #[.int .i64 t, .slice (some ⟨gl, ol, none⟩) n c, .slice Ao m co, .bool false, .int .u64 x], rd .i64 (.slice (some ⟨gl, ol, none⟩) n c) S, own .u64 TU (.slice Ao m co) ys]) V := Lo.dropR (rs2 := [bx gr 59 #[.int .i64 1, .int .i64 2, .int .i64 o, .int .u64 x, .int .u64 x, .bool true], bx ga 59 #[.int .i64 1, .int .i64 2, .int .i64 o, .int .u64 x, .int .u64 x, .bool true]]) L8.out
  refine bodyPost_ret (v := .agg #[.int .i64 1, .int .i64 2, .int .i64 o, .int .u64 x, .int .u64 x, .bool true]) (results_cell_row rfl _ _ gr 59 #[.int .i64 1, .int .i64 2, .int .i64 o, .int .u64 x, .int .u64 x, .bool true] (0, 0) _ (by simp) (L8.out.memR 3 rfl) Tryz.underlying59 rfl (by kernel_rfl)) rfl ?_
  exact ⟨rfl, hF⟩

theorem rq_swap_yes {w0 w : World} {lo hi b rb : Nat} {q : Cfg} {A B : Int → List Int} {X : List Ob} {g gl ol n c m co : Nat} {t f : Int} {Ao : Option Addr} {S ys : List Int} {o : Nat} (hl : o < (B 2).length) (hx : (B 2).getD o 0 = f) (hmn : m < n) (hSo : S[m]? = some (o : Int)) (hys : ys.length ≤ 300000) (hym : ys.length = m) (f0 : 0 ≤ f) (f1 : f ≤ 1000000) (t0 : 0 ≤ t) (t1 : t < 16) {v : Int} (hv : f / 64 * 64 + t + 1 = v) (h : Lo w0 lo hi b rb q A B (X ++ [bx g TQl #[.int .i64 t, .slice (some ⟨gl, ol, none⟩) n c, .slice Ao m co, .bool true, .int .u64 f], rd .i64 (.slice (some ⟨gl, ol, none⟩) n c) S, own .u64 TU (.slice Ao m co) ys]) w) : Calls Tryz.prog 19 #[.pointer (some ⟨g, 0, none⟩), .pointer (some ⟨rb, 0, none⟩)] w fun e w' => e = .returned (accV 3 2 o f v true) ∧ ∃ Aa ca, Lo w0 lo hi b rb q A (upd B 2 o v) (X ++ [bx g TQl #[.int .i64 t, .slice (some ⟨gl, ol, none⟩) n c, .slice Aa (m + 1) ca, .bool false, .int .u64 f], rd .i64 (.slice (some ⟨gl, ol, none⟩) n c) S, own .u64 TU (.slice Aa (m + 1) ca) (ys ++ [f])]) w' := by
  have L0 := Lib.hid h
  clear h
  go_enter Tryz.func19, Tryz.ntmps19
  go_upto_region 1 with (fail)
  have L1 := Lib.hid (L0.out.newR 59 #[.int .i64 0, .int .i64 0, .int .i64 0, .int .u64 0, .int .u64 0, .bool false])
  obtain ⟨gr, hn⟩ : ∃ gr, w.heap.size = gr := ⟨_, rfl⟩
  rw [hn] at L1
  first | rw [hn] | skip
  clear hn
  obtain ⟨W1, hW⟩ : ∃ W', w.alloc (.cells #[.int .i64 0, .int .i64 0, .int .i64 0, .int .u64 0, .int .u64 0, .bool false] 59) = W' := ⟨_, rfl⟩
  rw [hW] at L1
  first | rw [hW] | skip
  clear hW
  have L1 : Hid (Lo w0 lo hi b rb q A B (X ++ [bx g TQl #[.int .i64 t, .slice (some ⟨gl, ol, none⟩) n c, .slice Ao m co, .bool true, .int .u64 f], rd .i64 (.slice (some ⟨gl, ol, none⟩) n c) S, own .u64 TU (.slice Ao m co) ys, bx gr 59 #[.int .i64 0, .int .i64 0, .int .i64 0, .int .u64 0, .int .u64 0, .bool false]]) W1) := L1
  clear L0
  have hdn := rq_done (L1.out.memR 0 rfl)
  rw [show decide (m = n) = false by simp; omega] at hdn
  go_upto_region 3 with ((go_at_call 15; (with_reducible refine hdn.mono ?_); rintro e w9 ⟨rfl, nq, rfl⟩))
  clear hdn
  have L2 : Hid (Lo w0 lo hi b rb q A B (X ++ [bx g TQl #[.int .i64 t, .slice (some ⟨gl, ol, none⟩) n c, .slice Ao m co, .bool true, .int .u64 f], rd .i64 (.slice (some ⟨gl, ol, none⟩) n c) S, own .u64 TU (.slice Ao m co) ys, bx gr 59 #[.int .i64 0, .int .i64 0, .int .i64 0, .int .u64 0, .int .u64 0, .bool false]]) (W1.drewN nq)) := Lib.hid (L1.out.drewN nq)
  obtain ⟨W2, hW⟩ : ∃ W', W1.drewN nq = W' := ⟨_, rfl⟩
  rw [hW] at L2
  first | rw [hW] | skip
  clear hW
  clear L1
  clear nq
  have c2_0_1 : W2.cell? ⟨g, 1, none⟩ = some (.slice (some ⟨gl, ol, none⟩) n c) := L2.out.cR 0 1 rfl rfl
  have c2_0_2 : W2.cell? ⟨g, 2, none⟩ = some (.slice Ao m co) := L2.out.cR 0 2 rfl rfl
  have ro : W2.cell? ⟨gl, ol + m, none⟩ = some (.int .i64 o) := L2.out.rR 1 rfl m hSo
  have hmI : (m : Int) < n := by omega
  have hm0 : (0 : Int) ≤ m := by omega
  go_quiet (fail)
  have L3 : Hid (Lo w0 lo hi b rb q A B (X ++ [bx g TQl #[.int .i64 t, .slice (some ⟨gl, ol, none⟩) n c, .slice Ao m co, .bool true, .int .u64 f], rd .i64 (.slice (some ⟨gl, ol, none⟩) n c) S, own .u64 TU (.slice Ao m co) ys, bx gr 59 #[.int .i64 0, .int .i64 0, .int .i64 0, .int .u64 0, .int .u64 0, .bool false]]) (W2.drewN nq)) := Lib.hid (L2.out.drewN nq)
  obtain ⟨W3, hW⟩ : ∃ W', W2.drewN nq = W' := ⟨_, rfl⟩
  rw [hW] at L3
  first | rw [hW] | skip
  clear hW
  clear L2 c2_0_1 c2_0_2 ro
  clear nq
  have c3_0_3 : W3.cell? ⟨g, 3, none⟩ = some (.bool true) := L3.out.cR 0 3 rfl rfl
  go_upto_region 9 with (fail)
  have c3_0_0 : W3.cell? ⟨g, 0, none⟩ = some (.int .i64 t) := L3.out.cR 0 0 rfl rfl
  have c3_0_4 : W3.cell? ⟨g, 4, none⟩ = some (.int .u64 f) := L3.out.cR 0 4 rfl rfl
  have hve := same_of (r_version f f0 (by omega))
  have hhe := same_of (r_held (f / 64) t (by omega) (by omega) t0 t1)
  simp only [hv] at hhe
  go_quiet (first | (go_at_call 44; exact Calls.quiet_of_same (hve _)) | (go_at_call 43; exact Calls.quiet_of_same (hhe _)))
  have L4 : Hid (Lo w0 lo hi b rb q A B (X ++ [bx g TQl #[.int .i64 t, .slice (some ⟨gl, ol, none⟩) n c, .slice Ao m co, .bool true, .int .u64 f], rd .i64 (.slice (some ⟨gl, ol, none⟩) n c) S, own .u64 TU (.slice Ao m co) ys, bx gr 59 #[.int .i64 0, .int .i64 0, .int .i64 0, .int .u64 0, .int .u64 0, .bool false]]) (W3.drewN nq)) := Lib.hid (L3.out.drewN nq)
  obtain ⟨W4, hW⟩ : ∃ W', W3.drewN nq = W' := ⟨_, rfl⟩
  rw [hW] at L4
  first | rw [hW] | skip
  clear hW
  clear L3 c3_0_3 c3_0_0 c3_0_4
  clear nq hve hhe
  have c4_0_4 : W4.cell? ⟨g, 4, none⟩ = some (.int .u64 f) := L4.out.cR 0 4 rfl rfl
  have hc := ro_swap L4.out 2 (by decide) o hl f hx f v v true (Lib.hid (by simp)) (Lib.hid (by simp))
  go_upto_region 11 with ((go_at_call 45; refine hc.mono ?_; rintro e w1 ⟨rfl, hL⟩))
  have L5 : Hid (Lo w0 lo hi b rb q A (upd B 2 o v) (X ++ [bx g TQl #[.int .i64 t, .slice (some ⟨gl, ol, none⟩) n c, .slice Ao m co, .bool true, .int .u64 f], rd .i64 (.slice (some ⟨gl, ol, none⟩) n c) S, own .u64 TU (.slice Ao m co) ys, bx gr 59 #[.int .i64 0, .int .i64 0, .int .i64 0, .int .u64 0, .int .u64 0, .bool false]]) w1) := Lib.hid hL
  clear hc hL L4 c4_0_4
  have L6 := Lib.hid (L5.out.newR 59 #[.int .i64 3, .int .i64 2, .int .i64 o, .int .u64 f, .int .u64 v, .bool true])
  obtain ⟨ga, hn⟩ : ∃ ga, w1.heap.size = ga := ⟨_, rfl⟩
  rw [hn] at L6
  first | rw [hn] | skip
  clear hn
  obtain ⟨W6, hW⟩ : ∃ W', w1.alloc (.cells #[.int .i64 3, .int .i64 2, .int .i64 o, .int .u64 f, .int .u64 v, .bool true] 59) = W' := ⟨_, rfl⟩
  rw [hW] at L6
  first | rw [hW] | skip
  clear hW
  have L6 : Hid (Lo w0 lo hi b rb q A (upd B 2 o v) (X ++ [bx g TQl #[.int .i64 t, .slice (some ⟨gl, ol, none⟩) n c, .slice Ao m co, .bool true, .int .u64 f], rd .i64 (.slice (some ⟨gl, ol, none⟩) n c) S, own .u64 TU (.slice Ao m co) ys, bx gr 59 #[.int .i64 0, .int .i64 0, .int .i64 0, .int .u64 0, .int .u64 0, .bool false], bx ga 59 #[.int .i64 3, .int .i64 2, .int .i64 o, .int .u64 f, .int .u64 v, .bool true]]) W6) := L6
  clear L5
  have c6_0_3 : W6.cell? ⟨g, 3, none⟩ = some (.bool true) := L6.out.cR 0 3 rfl rfl
  have z6_0_3 : W6.frozen? ⟨g, 3, none⟩ = false := L6.out.zR 0 3 rfl
  go_upto_region 12 with (fail)
  have L7 : Hid (Lo w0 lo hi b rb q A (upd B 2 o v) (X ++ [bx g TQl #[.int .i64 t, .slice (some ⟨gl, ol, none⟩) n c, .slice Ao m co, .bool false, .int .u64 f], rd .i64 (.slice (some ⟨gl, ol, none⟩) n c) S, own .u64 TU (.slice Ao m co) ys, bx gr 59 #[.int .i64 0, .int .i64 0, .int .i64 0, .int .u64 0, .int .u64 0, .bool false], bx ga 59 #[.int .i64 3, .int .i64 2, .int .i64 o, .int .u64 f, .int .u64 v, .bool true]]) (W6.setCell ⟨g, 3, none⟩ (.bool false))) := Lib.hid (L6.out.putR 0 3 (.bool false) rfl (by rfl))
  obtain ⟨W7, hW⟩ : ∃ W', W6.setCell ⟨g, 3, none⟩ (.bool false) = W' := ⟨_, rfl⟩
  rw [hW] at L7
  first | rw [hW] | skip
  clear hW
  clear L6 c6_0_3 z6_0_3
  have c7_4_5 : W7.cell? ⟨ga, 5, none⟩ = some (.bool true) := L7.out.cR 4 5 rfl rfl
  go_upto_region 13 with (fail)
  go_cut [] (fun wc => ∃ (Aa : Option Addr) (ca : Nat), Hid (Lo w0 lo hi b rb q A (upd B 2 o v) (X ++ [bx g TQl #[.int .i64 t, .slice (some ⟨gl, ol, none⟩) n c, .slice Aa (m + 1) ca, .bool false, .int .u64 f], rd .i64 (.slice (some ⟨gl, ol, none⟩) n c) S, own .u64 TU (.slice Aa (m + 1) ca) (ys ++ [f]), bx gr 59 #[.int .i64 0, .int .i64 0, .int .i64 0, .int .u64 0, .int .u64 0, .bool false], bx ga 59 #[.int .i64 3, .int .i64 2, .int .i64 o, .int .u64 f, .int .u64 v, .bool true]]) wc))
  case first =>
    obtain ⟨Aa, ca, w5, hrun, hL⟩ := L7.out.drew.pushU 2 rfl hys f
    rw [hym] at hrun hL
    have hrun' : (Builtin.append_ #[TR, TR] TR #[.slice Ao m co, .slice (some ⟨W7.heap.size, 0, none⟩) 1 1]).run Tryz.prog (W7.alloc (.cells #[.int .u64 f] TU)).drew = .ok (.slice Aa (m + 1) ca) w5 := hrun
    have hgb : g < W7.heap.size := (L7.out.memR 0 rfl).lt
    have c7_0_4 : W7.cell? ⟨g, 4, none⟩ = some (.int .u64 f) := L7.out.cR 0 4 rfl rfl
    have c7_0_2 : W7.cell? ⟨g, 2, none⟩ = some (.slice Ao m co) := L7.out.cR 0 2 rfl rfl
    have m1 : w5.cell? ⟨g, 2, none⟩ = some (.slice Ao m co) := hL.cR 0 2 rfl rfl
    have m2 : w5.frozen? ⟨g, 2, none⟩ = false := hL.zR 0 2 rfl
    have HL : Hid (Lo w0 lo hi b rb q A (upd B 2 o v) (X ++ [bx g TQl #[.int .i64 t, .slice (some ⟨gl, ol, none⟩) n c, .slice Aa (m + 1) ca, .bool false, .int .u64 f], rd .i64 (.slice (some ⟨gl, ol, none⟩) n c) S, own .u64 TU (.slice Aa (m + 1) ca) (ys ++ [f]), bx gr 59 #[.int .i64 0, .int .i64 0, .int .i64 0, .int .u64 0, .int .u64 0, .bool false], bx ga 59 #[.int .i64 3, .int .i64 2, .int .i64 o, .int .u64 f, .int .u64 v, .bool true]]) ((w5.setCell ⟨g, 2, none⟩ (.slice Aa (m + 1) ca)))) := Lib.hid (hL.putR 0 2 (.slice Aa (m + 1) ca) rfl (by rfl))
    clear hrun hL L7
    go_region_law ((refine step_append_run rfl _ _ TR rfl _ _ _ _ rfl rfl hrun' ?_))
    all_goals go_wp2_with fail
    all_goals go_meet
    all_goals exact ⟨_, _, HL⟩
  case rest =>
    clear L7
    obtain ⟨Aa, ca, L8⟩ := hcut
    have c8_3_0 : wc.cell? ⟨gr, 0, none⟩ = some (.int .i64 0) := L8.out.cR 3 0 rfl rfl
    have z8_3_0 : wc.frozen? ⟨gr, 0, none⟩ = false := L8.out.zR 3 0 rfl
    have c8_4_0 : wc.cell? ⟨ga, 0, none⟩ = some (.int .i64 3) := L8.out.cR 4 0 rfl rfl
    have c8_3_1 : wc.cell? ⟨gr, 1, none⟩ = some (.int .i64 0) := L8.out.cR 3 1 rfl rfl
    have z8_3_1 : wc.frozen? ⟨gr, 1, none⟩ = false := L8.out.zR 3 1 rfl
    have c8_4_1 : wc.cell? ⟨ga, 1, none⟩ = some (.int .i64 2) := L8.out.cR 4 1 rfl rfl
    have c8_3_2 : wc.cell? ⟨gr, 2, none⟩ = some (.int .i64 0) := L8.out.cR 3 2 rfl rfl
    have z8_3_2 : wc.frozen? ⟨gr, 2, none⟩ = false := L8.out.zR 3 2 rfl
    have c8_4_2 : wc.cell? ⟨ga, 2, none⟩ = some (.int .i64 o) := L8.out.cR 4 2 rfl rfl
    have c8_3_3 : wc.cell? ⟨gr, 3, none⟩ = some (.int .u64 0) := L8.out.cR 3 3 rfl rfl
    have z8_3_3 : wc.frozen? ⟨gr, 3, none⟩ = false := L8.out.zR 3 3 rfl
    have c8_4_3 : wc.cell? ⟨ga, 3, none⟩ = some (.int .u64 f) := L8.out.cR 4 3 rfl rfl
    have c8_3_4 : wc.cell? ⟨gr, 4, none⟩ = some (.int .u64 0) := L8.out.cR 3 4 rfl rfl
    have z8_3_4 : wc.frozen? ⟨gr, 4, none⟩ = false := L8.out.zR 3 4 rfl
    have c8_4_4 : wc.cell? ⟨ga, 4, none⟩ = some (.int .u64 v) := L8.out.cR 4 4 rfl rfl
    have c8_3_5 : wc.cell? ⟨gr, 5, none⟩ = some (.bool false) := L8.out.cR 3 5 rfl rfl
    have z8_3_5 : wc.frozen? ⟨gr, 5, none⟩ = false := L8.out.zR 3 5 rfl
    have c8_4_5 : wc.cell? ⟨ga, 5, none⟩ = some (.bool true) := L8.out.cR 4 5 rfl rfl
    go_wp2
    have L9 : Hid (Lo w0 lo hi b rb q A (upd B 2 o v) (X ++ [bx g TQl #[.int .i64 t, .slice (some ⟨gl, ol, none⟩) n c, .slice Aa (m + 1) ca, .bool false, .int .u64 f], rd .i64 (.slice (some ⟨gl, ol, none⟩) n c) S, own .u64 TU (.slice Aa (m + 1) ca) (ys ++ [f]), bx gr 59 #[.int .i64 3, .int .i64 2, .int .i64 o, .int .u64 f, .int .u64 v, .bool true], bx ga 59 #[.int .i64 3, .int .i64 2, .int .i64 o, .int .u64 f, .int .u64 v, .bool true]]) (((((((wc.setCell ⟨gr, 0, none⟩ (.int .i64 3)).setCell ⟨gr, 1, none⟩ (.int .i64 2)).setCell ⟨gr, 2, none⟩ (.int .i64 o)).setCell ⟨gr, 3, none⟩ (.int .u64 f)).setCell ⟨gr, 4, none⟩ (.int .u64 v)).setCell ⟨gr, 5, none⟩ (.bool true)))) := Lib.hid (L8.out.sixR 3 rfl (.int .i64 3) (.int .i64 2) (.int .i64 o) (.int .u64 f) (.int .u64 v) (.bool true))
    obtain ⟨V, hV⟩ : ∃ V, ((((((wc.setCell ⟨gr, 0, none⟩ (.int .i64 3)).setCell ⟨gr, 1, none⟩ (.int .i64 2)).setCell ⟨gr, 2, none⟩ (.int .i64 o)).setCell ⟨gr, 3, none⟩ (.int .u64 f)).setCell ⟨gr, 4, none⟩ (.int .u64 v)).setCell ⟨gr, 5, none⟩ (.bool true)) = V := ⟨_, rfl⟩
    rw [hV] at L9 ⊢
    clear hV
    have hF : Lo w0 lo hi b rb q A (upd B 2 o v) (X ++ [bx g TQl #[.int .i64 t, .slice (some ⟨gl, ol, none⟩) n c, .slice Aa (m + 1) ca, .bool false, .int .u64 f], rd .i64 (.slice (some ⟨gl, ol, none⟩) n c) S, own .u64 TU (.slice Aa (m + 1) ca) (ys ++ [f])]) V := Lo.dropR (rs2 := [bx gr 59 #[.int .i64 3, .int .i64 2, .int .i64 o, .int .u64 f, .int .u64 v, .bool true], bx ga 59 #[.int .i64 3, .int .i64 2, .int .i64 o, .int .u64 f, .int .u64 v, .bool true]]) L9.out
    refine bodyPost_ret (v := .agg #[.int .i64 3, .int .i64 2, .int .i64 o, .int .u64 f, .int .u64 v, .bool true]) (results_cell_row rfl _ _ gr 59 #[.int .i64 3, .int .i64 2, .int .i64 o, .int .u64 f, .int .u64 v, .bool true] (0, 0) _ (by simp) (L9.out.memR 3 rfl) Tryz.underlying59 rfl (by kernel_rfl)) rfl ?_
    exact ⟨rfl, Aa, ca, hF⟩

theorem rq_swap_no {w0 w : World} {lo hi b rb : Nat} {q : Cfg} {A B : Int → List Int} {X : List Ob} {g gl ol n c m co : Nat} {t f : Int} {Ao : Option Addr} {S ys : List Int} {o : Nat} (hl : o < (B 2).length) {x : Int} (hx : (B 2).getD o 0 = x) (x0 : 0 ≤ x) (x1 : x ≤ 18446744073709551615) (hmn : m < n) (hSo : S[m]? = some (o : Int)) (hys : ys.length ≤ 300000) (hym : ys.length = m) (f0 : 0 ≤ f) (f1 : f ≤ 1000000) (t0 : 0 ≤ t) (t1 : t < 16) {v : Int} (hv : f / 64 * 64 + t + 1 = v) (he : ¬ x = f) (h : Lo w0 lo hi b rb q A B (X ++ [bx g TQl #[.int .i64 t, .slice (some ⟨gl, ol, none⟩) n c, .slice Ao m co, .bool true, .int .u64 f], rd .i64 (.slice (some ⟨gl, ol, none⟩) n c) S, own .u64 TU (.slice Ao m co) ys]) w) : Calls Tryz.prog 19 #[.pointer (some ⟨g, 0, none⟩), .pointer (some ⟨rb, 0, none⟩)] w fun e w' => e = .returned (accV 3 2 o x x false) ∧ Lo w0 lo hi b rb q A (upd B 2 o x) (X ++ [bx g TQl #[.int .i64 t, .slice (some ⟨gl, ol, none⟩) n c, .slice Ao m co, .bool false, .int .u64 f], rd .i64 (.slice (some ⟨gl, ol, none⟩) n c) S, own .u64 TU (.slice Ao m co) ys]) w' := by
  have L0 := Lib.hid h
  clear h
  go_enter Tryz.func19, Tryz.ntmps19
  go_upto_region 1 with (fail)
  have L1 := Lib.hid (L0.out.newR 59 #[.int .i64 0, .int .i64 0, .int .i64 0, .int .u64 0, .int .u64 0, .bool false])
  obtain ⟨gr, hn⟩ : ∃ gr, w.heap.size = gr := ⟨_, rfl⟩
  rw [hn] at L1
  first | rw [hn] | skip
  clear hn
  obtain ⟨W1, hW⟩ : ∃ W', w.alloc (.cells #[.int .i64 0, .int .i64 0, .int .i64 0, .int .u64 0, .int .u64 0, .bool false] 59) = W' := ⟨_, rfl⟩
  rw [hW] at L1
  first | rw [hW] | skip
  clear hW
  have L1 : Hid (Lo w0 lo hi b rb q A B (X ++ [bx g TQl #[.int .i64 t, .slice (some ⟨gl, ol, none⟩) n c, .slice Ao m co, .bool true, .int .u64 f], rd .i64 (.slice (some ⟨gl, ol, none⟩) n c) S, own .u64 TU (.slice Ao m co) ys, bx gr 59 #[.int .i64 0, .int .i64 0, .int .i64 0, .int .u64 0, .int .u64 0, .bool false]]) W1) := L1
  clear L0
  have hdn := rq_done (L1.out.memR 0 rfl)
  rw [show decide (m = n) = false by simp; omega] at hdn
  go_upto_region 3 with ((go_at_call 15; (with_reducible refine hdn.mono ?_); rintro e w9 ⟨rfl, nq, rfl⟩))
  clear hdn
  have L2 : Hid (Lo w0 lo hi b rb q A B (X ++ [bx g TQl #[.int .i64 t, .slice (some ⟨gl, ol, none⟩) n c, .slice Ao m co, .bool true, .int .u64 f], rd .i64 (.slice (some ⟨gl, ol, none⟩) n c) S, own .u64 TU (.slice Ao m co) ys, bx gr 59 #[.int .i64 0, .int .i64 0, .int .i64 0, .int .u64 0, .int .u64 0, .bool false]]) (W1.drewN nq)) := Lib.hid (L1.out.drewN nq)
  obtain ⟨W2, hW⟩ : ∃ W', W1.drewN nq = W' := ⟨_, rfl⟩
  rw [hW] at L2
  first | rw [hW] | skip
  clear hW
  clear L1
  clear nq
  have c2_0_1 : W2.cell? ⟨g, 1, none⟩ = some (.slice (some ⟨gl, ol, none⟩) n c) := L2.out.cR 0 1 rfl rfl
  have c2_0_2 : W2.cell? ⟨g, 2, none⟩ = some (.slice Ao m co) := L2.out.cR 0 2 rfl rfl
  have ro : W2.cell? ⟨gl, ol + m, none⟩ = some (.int .i64 o) := L2.out.rR 1 rfl m hSo
  have hmI : (m : Int) < n := by omega
  have hm0 : (0 : Int) ≤ m := by omega
  go_quiet (fail)
  have L3 : Hid (Lo w0 lo hi b rb q A B (X ++ [bx g TQl #[.int .i64 t, .slice (some ⟨gl, ol, none⟩) n c, .slice Ao m co, .bool true, .int .u64 f], rd .i64 (.slice (some ⟨gl, ol, none⟩) n c) S, own .u64 TU (.slice Ao m co) ys, bx gr 59 #[.int .i64 0, .int .i64 0, .int .i64 0, .int .u64 0, .int .u64 0, .bool false]]) (W2.drewN nq)) := Lib.hid (L2.out.drewN nq)
  obtain ⟨W3, hW⟩ : ∃ W', W2.drewN nq = W' := ⟨_, rfl⟩
  rw [hW] at L3
  first | rw [hW] | skip
  clear hW
  clear L2 c2_0_1 c2_0_2 ro
  clear nq
  have c3_0_3 : W3.cell? ⟨g, 3, none⟩ = some (.bool true) := L3.out.cR 0 3 rfl rfl
  go_upto_region 9 with (fail)
  have c3_0_0 : W3.cell? ⟨g, 0, none⟩ = some (.int .i64 t) := L3.out.cR 0 0 rfl rfl
  have c3_0_4 : W3.cell? ⟨g, 4, none⟩ = some (.int .u64 f) := L3.out.cR 0 4 rfl rfl
  have hve := same_of (r_version f f0 (by omega))
  have hhe := same_of (r_held (f / 64) t (by omega) (by omega) t0 t1)
  simp only [hv] at hhe
  go_quiet (first | (go_at_call 44; exact Calls.quiet_of_same (hve _)) | (go_at_call 43; exact Calls.quiet_of_same (hhe _)))
  have L4 : Hid (Lo w0 lo hi b rb q A B (X ++ [bx g TQl #[.int .i64 t, .slice (some ⟨gl, ol, none⟩) n c, .slice Ao m co, .bool true, .int .u64 f], rd .i64 (.slice (some ⟨gl, ol, none⟩) n c) S, own .u64 TU (.slice Ao m co) ys, bx gr 59 #[.int .i64 0, .int .i64 0, .int .i64 0, .int .u64 0, .int .u64 0, .bool false]]) (W3.drewN nq)) := Lib.hid (L3.out.drewN nq)
  obtain ⟨W4, hW⟩ : ∃ W', W3.drewN nq = W' := ⟨_, rfl⟩
  rw [hW] at L4
  first | rw [hW] | skip
  clear hW
  clear L3 c3_0_3 c3_0_0 c3_0_4
  clear nq hve hhe
  have c4_0_4 : W4.cell? ⟨g, 4, none⟩ = some (.int .u64 f) := L4.out.cR 0 4 rfl rfl
  have hc := ro_swap L4.out 2 (by decide) o hl x hx f v x false (Lib.hid (by simp [he])) (Lib.hid (by simp [he]))
  go_upto_region 11 with ((go_at_call 45; refine hc.mono ?_; rintro e w1 ⟨rfl, hL⟩))
  have L5 : Hid (Lo w0 lo hi b rb q A (upd B 2 o x) (X ++ [bx g TQl #[.int .i64 t, .slice (some ⟨gl, ol, none⟩) n c, .slice Ao m co, .bool true, .int .u64 f], rd .i64 (.slice (some ⟨gl, ol, none⟩) n c) S, own .u64 TU (.slice Ao m co) ys, bx gr 59 #[.int .i64 0, .int .i64 0, .int .i64 0, .int .u64 0, .int .u64 0, .bool false]]) w1) := Lib.hid hL
  clear hc hL L4 c4_0_4
  have L6 := Lib.hid (L5.out.newR 59 #[.int .i64 3, .int .i64 2, .int .i64 o, .int .u64 x, .int .u64 x, .bool false])
  obtain ⟨ga, hn⟩ : ∃ ga, w1.heap.size = ga := ⟨_, rfl⟩
  rw [hn] at L6
  first | rw [hn] | skip
  clear hn
  obtain ⟨W6, hW⟩ : ∃ W', w1.alloc (.cells #[.int .i64 3, .int .i64 2, .int .i64 o, .int .u64 x, .int .u64 x, .bool false] 59) = W' := ⟨_, rfl⟩
  rw [hW] at L6
  first | rw [hW] | skip
  clear hW
  have L6 : Hid (Lo w0 lo hi b rb q A (upd B 2 o x) (X ++ [bx g TQl #[.int .i64 t, .slice (some ⟨gl, ol, none⟩) n c, .slice Ao m co, .bool true, .int .u64 f], rd .i64 (.slice (some ⟨gl, ol, none⟩) n c) S, own .u64 TU (.slice Ao m co) ys, bx gr 59 #[.int .i64 0, .int .i64 0, .int .i64 0, .int .u64 0, .int .u64 0, .bool false], bx ga 59 #[.int .i64 3, .int .i64 2, .int .i64 o, .int .u64 x, .int .u64 x, .bool false]]) W6) := L6
  clear L5
  have c6_0_3 : W6.cell? ⟨g, 3, none⟩ = some (.bool true) := L6.out.cR 0 3 rfl rfl
  have z6_0_3 : W6.frozen? ⟨g, 3, none⟩ = false := L6.out.zR 0 3 rfl
  go_upto_region 12 with (fail)
  have L7 : Hid (Lo w0 lo hi b rb q A (upd B 2 o x) (X ++ [bx g TQl #[.int .i64 t, .slice (some ⟨gl, ol, none⟩) n c, .slice Ao m co, .bool false, .int .u64 f], rd .i64 (.slice (some ⟨gl, ol, none⟩) n c) S, own .u64 TU (.slice Ao m co) ys, bx gr 59 #[.int .i64 0, .int .i64 0, .int .i64 0, .int .u64 0, .int .u64 0, .bool false], bx ga 59 #[.int .i64 3, .int .i64 2, .int .i64 o, .int .u64 x, .int .u64 x, .bool false]]) (W6.setCell ⟨g, 3, none⟩ (.bool false))) := Lib.hid (L6.out.putR 0 3 (.bool false) rfl (by rfl))
  obtain ⟨W7, hW⟩ : ∃ W', W6.setCell ⟨g, 3, none⟩ (.bool false) = W' := ⟨_, rfl⟩
  rw [hW] at L7
  first | rw [hW] | skip
  clear hW
  clear L6 c6_0_3 z6_0_3
  have c7_4_5 : W7.cell? ⟨ga, 5, none⟩ = some (.bool false) := L7.out.cR 4 5 rfl rfl
  have c7_3_0 : W7.cell? ⟨gr, 0, none⟩ = some (.int .i64 0) := L7.out.cR 3 0 rfl rfl
  have z7_3_0 : W7.frozen? ⟨gr, 0, none⟩ = false := L7.out.zR 3 0 rfl
  have c7_4_0 : W7.cell? ⟨ga, 0, none⟩ = some (.int .i64 3) := L7.out.cR 4 0 rfl rfl
  have c7_3_1 : W7.cell? ⟨gr, 1, none⟩ = some (.int .i64 0) := L7.out.cR 3 1 rfl rfl
  have z7_3_1 : W7.frozen? ⟨gr, 1, none⟩ = false := L7.out.zR 3 1 rfl
  have c7_4_1 : W7.cell? ⟨ga, 1, none⟩ = some (.int .i64 2) := L7.out.cR 4 1 rfl rfl
  have c7_3_2 : W7.cell? ⟨gr, 2, none⟩ = some (.int .i64 0) := L7.out.cR 3 2 rfl rfl
  have z7_3_2 : W7.frozen? ⟨gr, 2, none⟩ = false := L7.out.zR 3 2 rfl
  have c7_4_2 : W7.cell? ⟨ga, 2, none⟩ = some (.int .i64 o) := L7.out.cR 4 2 rfl rfl
  have c7_3_3 : W7.cell? ⟨gr, 3, none⟩ = some (.int .u64 0) := L7.out.cR 3 3 rfl rfl
  have z7_3_3 : W7.frozen? ⟨gr, 3, none⟩ = false := L7.out.zR 3 3 rfl
  have c7_4_3 : W7.cell? ⟨ga, 3, none⟩ = some (.int .u64 x) := L7.out.cR 4 3 rfl rfl
  have c7_3_4 : W7.cell? ⟨gr, 4, none⟩ = some (.int .u64 0) := L7.out.cR 3 4 rfl rfl
  have z7_3_4 : W7.frozen? ⟨gr, 4, none⟩ = false := L7.out.zR 3 4 rfl
  have c7_4_4 : W7.cell? ⟨ga, 4, none⟩ = some (.int .u64 x) := L7.out.cR 4 4 rfl rfl
  have c7_3_5 : W7.cell? ⟨gr, 5, none⟩ = some (.bool false) := L7.out.cR 3 5 rfl rfl
  have z7_3_5 : W7.frozen? ⟨gr, 5, none⟩ = false := L7.out.zR 3 5 rfl
  have c7_4_5 : W7.cell? ⟨ga, 5, none⟩ = some (.bool false) := L7.out.cR 4 5 rfl rfl
  go_wp2
  have L8 : Hid (Lo w0 lo hi b rb q A (upd B 2 o x) (X ++ [bx g TQl #[.int .i64 t, .slice (some ⟨gl, ol, none⟩) n c, .slice Ao m co, .bool false, .int .u64 f], rd .i64 (.slice (some ⟨gl, ol, none⟩) n c) S, own .u64 TU (.slice Ao m co) ys, bx gr 59 #[.int .i64 3, .int .i64 2, .int .i64 o, .int .u64 x, .int .u64 x, .bool false], bx ga 59 #[.int .i64 3, .int .i64 2, .int .i64 o, .int .u64 x, .int .u64 x, .bool false]]) (((((((W7.setCell ⟨gr, 0, none⟩ (.int .i64 3)).setCell ⟨gr, 1, none⟩ (.int .i64 2)).setCell ⟨gr, 2, none⟩ (.int .i64 o)).setCell ⟨gr, 3, none⟩ (.int .u64 x)).setCell ⟨gr, 4, none⟩ (.int .u64 x)).setCell ⟨gr, 5, none⟩ (.bool false)))) := Lib.hid (L7.out.sixR 3 rfl (.int .i64 3) (.int .i64 2) (.int .i64 o) (.int .u64 x) (.int .u64 x) (.bool false))
  obtain ⟨V, hV⟩ : ∃ V, ((((((W7.setCell ⟨gr, 0, none⟩ (.int .i64 3)).setCell ⟨gr, 1, none⟩ (.int .i64 2)).setCell ⟨gr, 2, none⟩ (.int .i64 o)).setCell ⟨gr, 3, none⟩ (.int .u64 x)).setCell ⟨gr, 4, none⟩ (.int .u64 x)).setCell ⟨gr, 5, none⟩ (.bool false)) = V := ⟨_, rfl⟩
  rw [hV] at L8 ⊢
  clear hV
  have hF : Lo w0 lo hi b rb q A (upd B 2 o x) (X ++ [bx g TQl #[.int .i64 t, .slice (some ⟨gl, ol, none⟩) n c, .slice Ao m co, .bool false, .int .u64 f], rd .i64 (.slice (some ⟨gl, ol, none⟩) n c) S, own .u64 TU (.slice Ao m co) ys]) V := Lo.dropR (rs2 := [bx gr 59 #[.int .i64 3, .int .i64 2, .int .i64 o, .int .u64 x, .int .u64 x, .bool false], bx ga 59 #[.int .i64 3, .int .i64 2, .int .i64 o, .int .u64 x, .int .u64 x, .bool false]]) L8.out
  refine bodyPost_ret (v := .agg #[.int .i64 3, .int .i64 2, .int .i64 o, .int .u64 x, .int .u64 x, .bool false]) (results_cell_row rfl _ _ gr 59 #[.int .i64 3, .int .i64 2, .int .i64 o, .int .u64 x, .int .u64 x, .bool false] (0, 0) _ (by simp) (L8.out.memR 3 rfl) Tryz.underlying59 rfl (by kernel_rfl)) rfl ?_
  exact ⟨rfl, hF⟩

theorem rq_new {w0 w : World} {lo hi b rb : Nat} {q : Cfg} {A B : Int → List Int} {X : List Ob} (h : Lo w0 lo hi b rb q A B X w) (t : Int) (p : Option Addr) (n cap : Nat) (xs : List Int) (hr : RdS .i64 w (.slice p n cap) xs) (hn : xs.length = n) (hl : n ≤ 1000) : Calls Tryz.prog 13 #[.int .i64 t, .slice p n cap] w fun e w' => ∃ g pl cl, e = .returned (.pointer (some ⟨g, 0, none⟩)) ∧ Lo w0 lo hi b rb q A B (X ++ [bx g TQl #[.int .i64 t, .slice pl (srt xs).length cl, .slice none 0 0, .bool false, .int .u64 0], rd .i64 (.slice pl (srt xs).length cl) (srt xs), own .u64 TU (.slice none 0 0) []]) w' := by
  have hs := r_sorted w p n cap xs hr hn hl
  have L0 := Lib.hid h
  clear h hr
  go_enter Tryz.func13, Tryz.ntmps13
  go_wp2_with (go_at_call 36; (with_reducible refine hs.mono ?_); rintro e w2 ⟨pl, cl, rfl, ho, hb⟩)
  have L1 := Lib.hid (Lo.addR (rs := []) (by rw [List.append_nil]; exact L0.out) hb (o := rd .i64 (.slice pl (srt xs).length cl) (srt xs)) (rdr_own ho) fun x hx => (World.ownsRow.lt ho x (blk_mem hx)).1)
  have L2 := Lib.hid (Lo.newR (rs := [rd .i64 (.slice pl (srt xs).length cl) (srt xs)]) L1.out TQl #[.int .i64 t, .slice pl (srt xs).length cl, .slice none 0 0, .bool false, .int .u64 0])
  have L3 := Lib.hid (Lo.addR (rs := [rd .i64 (.slice pl (srt xs).length cl) (srt xs), bx w2.heap.size TQl #[.int .i64 t, .slice pl (srt xs).length cl, .slice none 0 0, .bool false, .int .u64 0]]) L2.out (Below.refl _ _) (o := own .u64 TU (.slice none 0 0) []) (World.ownsRow_nil _ _ _ _) fun x hx => by simp [own, Value.ownBlock] at hx)
  clear ho hb hs L0 L1 L2
  go_ret
  exact ⟨_, pl, cl, rfl, L3.out.perm (List.Perm.append_left _ (List.Perm.swap ..))⟩

theorem rs_done {w : World} {g n c k : Nat} {p : Option Addr} {v0 v2 : Value} (M : Mem w g TQs #[v0, .slice p n c, v2, .int .i64 k]) : Calls Tryz.prog 26 #[.pointer (some ⟨g, 0, none⟩)] w fun e w' => e = .returned (.bool ((k : Int) == (n : Int))) ∧ ∃ n, w' = w.drewN n := by
  have c1 := M.cell 1
  have c2 := M.cell 3
  simp at c1 c2
  clear M
  go_enter Tryz.func26, Tryz.ntmps26
  go_upto_region 1 with (fail)
  go_quiet (fail)
  go_wp2
  go_ret
  exact ⟨rfl, nq, rfl⟩
theorem rs_new {w0 w : World} {lo hi b rb : Nat} {q : Cfg} {A B : Int → List Int} {X : List Ob} (h : Lo w0 lo hi b rb q A B X w) (p1 p2 : Option Addr) (n c1 c2 : Nat) (h1 : n ≤ c1) (h2 : n ≤ c2) : Calls Tryz.prog 22 #[.int .i64 2, .slice p1 n c1, .slice p2 n c2] w fun e w' => ∃ g, e = .returned (.pointer (some ⟨g, 0, none⟩)) ∧ Lo w0 lo hi b rb q A B (X ++ [bx g TQs #[.int .i64 2, .slice p1 n c1, .slice p2 n c2, .int .i64 0]]) w' := by
  have L0 := Lib.hid h
  have hs1 := all_run (ts := 23) Tryz.underlying23 (fun wx => by kernel_rfl) p1 n c1 h1
  have hs2 := all_run (ts := 54) Tryz.underlying54 (fun wx => by kernel_rfl) p2 n c2 h2
  clear h h1 h2
  go_enter Tryz.func22, Tryz.ntmps22
  go_upto_region 2 with (fail)
  go_region_held3 (fun W : World => True) (first | trivial) (fail)
  have L1 := Lib.hid (L0.out.drew.new TQs #[.int .i64 2, .slice p1 n c1, .slice p2 n c2, .int .i64 0])
  go_wp2
  go_ret
  exact ⟨_, rfl, L1.out⟩

theorem rs_over {w0 w : World} {lo hi b rb : Nat} {q : Cfg} {A B : Int → List Int} {X : List Ob} {g n c1 c2 : Nat} {p1 p2 : Option Addr} (h : Lo w0 lo hi b rb q A B (X ++ [bx g TQs #[.int .i64 2, .slice p1 n c1, .slice p2 n c2, .int .i64 n]]) w) : Calls Tryz.prog 24 #[.pointer (some ⟨g, 0, none⟩), .pointer (some ⟨rb, 0, none⟩)] w fun e w' => e = .returned (accV 0 0 0 0 0 false) ∧ Lo w0 lo hi b rb q A B (X ++ [bx g TQs #[.int .i64 2, .slice p1 n c1, .slice p2 n c2, .int .i64 n]]) w' := by
  have L0 := Lib.hid h
  clear h
  go_enter Tryz.func24, Tryz.ntmps24
  go_upto_region 1 with (fail)
  have L1 := Lib.hid (L0.out.newR 59 #[.int .i64 0, .int .i64 0, .int .i64 0, .int .u64 0, .int .u64 0, .bool false])
  obtain ⟨gr, hn⟩ : ∃ gr, w.heap.size = gr := ⟨_, rfl⟩
  rw [hn] at L1
  first | rw [hn] | skip
  clear hn
  obtain ⟨W1, hW⟩ : ∃ W', w.alloc (.cells #[.int .i64 0, .int .i64 0, .int .i64 0, .int .u64 0, .int .u64 0, .bool false] 59) = W' := ⟨_, rfl⟩
  rw [hW] at L1
  first | rw [hW] | skip
  clear hW
  have L1 : Hid (Lo w0 lo hi b rb q A B (X ++ [bx g TQs #[.int .i64 2, .slice p1 n c1, .slice p2 n c2, .int .i64 n], bx gr 59 #[.int .i64 0, .int .i64 0, .int .i64 0, .int .u64 0, .int .u64 0, .bool false]]) W1) := L1
  clear L0
  have hdn := rs_done (L1.out.memR 0 rfl)
  rw [show ((n : Int) == (n : Int)) = true by simp] at hdn
  go_upto_region 2 with ((go_at_call 26; (with_reducible refine hdn.mono ?_); rintro e w9 ⟨rfl, nq, rfl⟩))
  clear hdn
  have L2 : Hid (Lo w0 lo hi b rb q A B (X ++ [bx g TQs #[.int .i64 2, .slice p1 n c1, .slice p2 n c2, .int .i64 n], bx gr 59 #[.int .i64 0, .int .i64 0, .int .i64 0, .int .u64 0, .int .u64 0, .bool false]]) (W1.drewN nq)) := Lib.hid (L1.out.drewN nq)
  obtain ⟨W2, hW⟩ : ∃ W', W1.drewN nq = W' := ⟨_, rfl⟩
  rw [hW] at L2
  first | rw [hW] | skip
  clear hW
  clear L1
  clear nq
  have c2_1_0 : W2.cell? ⟨gr, 0, none⟩ = some (.int .i64 0) := L2.out.cR 1 0 rfl rfl
  have z2_1_0 : W2.frozen? ⟨gr, 0, none⟩ = false := L2.out.zR 1 0 rfl
  have c2_1_1 : W2.cell? ⟨gr, 1, none⟩ = some (.int .i64 0) := L2.out.cR 1 1 rfl rfl
  have z2_1_1 : W2.frozen? ⟨gr, 1, none⟩ = false := L2.out.zR 1 1 rfl
  have c2_1_2 : W2.cell? ⟨gr, 2, none⟩ = some (.int .i64 0) := L2.out.cR 1 2 rfl rfl
  have z2_1_2 : W2.frozen? ⟨gr, 2, none⟩ = false := L2.out.zR 1 2 rfl
  have c2_1_3 : W2.cell? ⟨gr, 3, none⟩ = some (.int .u64 0) := L2.out.cR 1 3 rfl rfl
  have z2_1_3 : W2.frozen? ⟨gr, 3, none⟩ = false := L2.out.zR 1 3 rfl
  have c2_1_4 : W2.cell? ⟨gr, 4, none⟩ = some (.int .u64 0) := L2.out.cR 1 4 rfl rfl
  have z2_1_4 : W2.frozen? ⟨gr, 4, none⟩ = false := L2.out.zR 1 4 rfl
  have c2_1_5 : W2.cell? ⟨gr, 5, none⟩ = some (.bool false) := L2.out.cR 1 5 rfl rfl
  have z2_1_5 : W2.frozen? ⟨gr, 5, none⟩ = false := L2.out.zR 1 5 rfl
  go_wp2
  have L3 : Hid (Lo w0 lo hi b rb q A B (X ++ [bx g TQs #[.int .i64 2, .slice p1 n c1, .slice p2 n c2, .int .i64 n], bx gr 59 #[.int .i64 0, .int .i64 0, .int .i64 0, .int .u64 0, .int .u64 0, .bool false]]) (((((((W2.setCell ⟨gr, 0, none⟩ (.int .i64 0)).setCell ⟨gr, 1, none⟩ (.int .i64 0)).setCell ⟨gr, 2, none⟩ (.int .i64 0)).setCell ⟨gr, 3, none⟩ (.int .u64 0)).setCell ⟨gr, 4, none⟩ (.int .u64 0)).setCell ⟨gr, 5, none⟩ (.bool false)))) := Lib.hid (L2.out.sixR 1 rfl (.int .i64 0) (.int .i64 0) (.int .i64 0) (.int .u64 0) (.int .u64 0) (.bool false))
  obtain ⟨V, hV⟩ : ∃ V, ((((((W2.setCell ⟨gr, 0, none⟩ (.int .i64 0)).setCell ⟨gr, 1, none⟩ (.int .i64 0)).setCell ⟨gr, 2, none⟩ (.int .i64 0)).setCell ⟨gr, 3, none⟩ (.int .u64 0)).setCell ⟨gr, 4, none⟩ (.int .u64 0)).setCell ⟨gr, 5, none⟩ (.bool false)) = V := ⟨_, rfl⟩
  rw [hV] at L3 ⊢
  clear hV
  have hF : Lo w0 lo hi b rb q A B (X ++ [bx g TQs #[.int .i64 2, .slice p1 n c1, .slice p2 n c2, .int .i64 n]]) V := Lo.dropR (rs2 := [bx gr 59 #[.int .i64 0, .int .i64 0, .int .i64 0, .int .u64 0, .int .u64 0, .bool false]]) L3.out
  refine bodyPost_ret (v := .agg #[.int .i64 0, .int .i64 0, .int .i64 0, .int .u64 0, .int .u64 0, .bool false]) (results_cell_row rfl _ _ gr 59 #[.int .i64 0, .int .i64 0, .int .i64 0, .int .u64 0, .int .u64 0, .bool false] (0, 0) _ (by simp) (L3.out.memR 1 rfl) Tryz.underlying59 rfl (by kernel_rfl)) rfl ?_
  exact ⟨rfl, hF⟩

theorem rs_store {w0 w : World} {lo hi b rb : Nat} {q : Cfg} {A B : Int → List Int} {X : List Ob} {g n c1 c2 k ga1 o1 ga2 o2 : Nat} {xs ys : List Int} {o : Nat} (hl : o < (B 2).length) {x v : Int} (hx : (B 2).getD o 0 = x) (hk : k < n) (hk1 : k < 1000000) (hxo : xs[k]? = some (o : Int)) (hyv : ys[k]? = some v) (h : Lo w0 lo hi b rb q A B (X ++ [bx g TQs #[.int .i64 2, .slice (some ⟨ga1, o1, none⟩) n c1, .slice (some ⟨ga2, o2, none⟩) n c2, .int .i64 k], rd .i64 (.slice (some ⟨ga1, o1, none⟩) n c1) xs, rd .u64 (.slice (some ⟨ga2, o2, none⟩) n c2) ys]) w) : Calls Tryz.prog 24 #[.pointer (some ⟨g, 0, none⟩), .pointer (some ⟨rb, 0, none⟩)] w fun e w' => e = .returned (accV 2 2 o x v true) ∧ Lo w0 lo hi b rb q A (upd B 2 o v) (X ++ [bx g TQs #[.int .i64 2, .slice (some ⟨ga1, o1, none⟩) n c1, .slice (some ⟨ga2, o2, none⟩) n c2, .int .i64 ((k : Int) + 1)], rd .i64 (.slice (some ⟨ga1, o1, none⟩) n c1) xs, rd .u64 (.slice (some ⟨ga2, o2, none⟩) n c2) ys]) w' := by
  have L0 := Lib.hid h
  clear h
  have hkI : (k : Int) < n := by omega
  have hk0 : (0 : Int) ≤ k := by omega
  have hw1 : IntKind.i64.wrap ((k : Int) + 1) = (k : Int) + 1 := IntWalk.i64_in _ (by omega)
  have hw2 : IntKind.i64.wrap ((k : Int) + 1 - 1) = (k : Int) := (IntWalk.i64_in _ (by omega)).trans (by omega)
  have hw3 : IntKind.i64.wrap (k : Int) = (k : Int) := IntWalk.i64_in _ (by omega)
  go_enter Tryz.func24, Tryz.ntmps24
  go_upto_region 1 with (fail)
  have L1 := Lib.hid (L0.out.newR 59 #[.int .i64 0, .int .i64 0, .int .i64 0, .int .u64 0, .int .u64 0, .bool false])
  obtain ⟨gr, hn⟩ : ∃ gr, w.heap.size = gr := ⟨_, rfl⟩
  rw [hn] at L1
  first | rw [hn] | skip
  clear hn
  obtain ⟨W1, hW⟩ : ∃ W', w.alloc (.cells #[.int .i64 0, .int .i64 0, .int .i64 0, .int .u64 0, .int .u64 0, .bool false] 59) = W' := ⟨_, rfl⟩
  rw [hW] at L1
  first | rw [hW] | skip
  clear hW
  have L1 : Hid (Lo w0 lo hi b rb q A B (X ++ [bx g TQs #[.int .i64 2, .slice (some ⟨ga1, o1, none⟩) n c1, .slice (some ⟨ga2, o2, none⟩) n c2, .int .i64 k], rd .i64 (.slice (some ⟨ga1, o1, none⟩) n c1) xs, rd .u64 (.slice (some ⟨ga2, o2, none⟩) n c2) ys, bx gr 59 #[.int .i64 0, .int .i64 0, .int .i64 0, .int .u64 0, .int .u64 0, .bool false]]) W1) := L1
  clear L0
  have hdn := rs_done (L1.out.memR 0 rfl)
  rw [show ((k : Int) == (n : Int)) = false by rw [beq_eq_false_iff_ne]; omega] at hdn
  go_upto_region 3 with ((go_at_call 26; (with_reducible refine hdn.mono ?_); rintro e w9 ⟨rfl, nq, rfl⟩))
  clear hdn
  have L2 : Hid (Lo w0 lo hi b rb q A B (X ++ [bx g TQs #[.int .i64 2, .slice (some ⟨ga1, o1, none⟩) n c1, .slice (some ⟨ga2, o2, none⟩) n c2, .int .i64 k], rd .i64 (.slice (some ⟨ga1, o1, none⟩) n c1) xs, rd .u64 (.slice (some ⟨ga2, o2, none⟩) n c2) ys, bx gr 59 #[.int .i64 0, .int .i64 0, .int .i64 0, .int .u64 0, .int .u64 0, .bool false]]) (W1.drewN nq)) := Lib.hid (L1.out.drewN nq)
  obtain ⟨W2, hW⟩ : ∃ W', W1.drewN nq = W' := ⟨_, rfl⟩
  rw [hW] at L2
  first | rw [hW] | skip
  clear hW
  clear L1
  clear nq
  have c2_0_3 : W2.cell? ⟨g, 3, none⟩ = some (.int .i64 k) := L2.out.cR 0 3 rfl rfl
  have z2_0_3 : W2.frozen? ⟨g, 3, none⟩ = false := L2.out.zR 0 3 rfl
  go_upto_region 4 with (fail)
  have L3 : Hid (Lo w0 lo hi b rb q A B (X ++ [bx g TQs #[.int .i64 2, .slice (some ⟨ga1, o1, none⟩) n c1, .slice (some ⟨ga2, o2, none⟩) n c2, .int .i64 ((k : Int) + 1)], rd .i64 (.slice (some ⟨ga1, o1, none⟩) n c1) xs, rd .u64 (.slice (some ⟨ga2, o2, none⟩) n c2) ys, bx gr 59 #[.int .i64 0, .int .i64 0, .int .i64 0, .int .u64 0, .int .u64 0, .bool false]]) (W2.setCell ⟨g, 3, none⟩ (.int .i64 ((k : Int) + 1)))) := Lib.hid (L2.out.putR 0 3 (.int .i64 ((k : Int) + 1)) rfl (by rfl))
  obtain ⟨W3, hW⟩ : ∃ W', W2.setCell ⟨g, 3, none⟩ (.int .i64 ((k : Int) + 1)) = W' := ⟨_, rfl⟩
  rw [hW] at L3
  first | rw [hW] | skip
  clear hW
  clear L2 c2_0_3 z2_0_3
  have c3_0_0 : W3.cell? ⟨g, 0, none⟩ = some (.int .i64 2) := L3.out.cR 0 0 rfl rfl
  have c3_0_1 : W3.cell? ⟨g, 1, none⟩ = some (.slice (some ⟨ga1, o1, none⟩) n c1) := L3.out.cR 0 1 rfl rfl
  have c3_0_2 : W3.cell? ⟨g, 2, none⟩ = some (.slice (some ⟨ga2, o2, none⟩) n c2) := L3.out.cR 0 2 rfl rfl
  have c3_0_3 : W3.cell? ⟨g, 3, none⟩ = some (.int .i64 ((k : Int) + 1)) := L3.out.cR 0 3 rfl rfl
  have ra : W3.cell? ⟨ga1, o1 + k, none⟩ = some (.int .i64 o) := L3.out.rR 1 rfl k hxo
  have rv : W3.cell? ⟨ga2, o2 + k, none⟩ = some (.int .u64 v) := L3.out.rR 2 rfl k hyv
  have hs0 : (fun W : World => W.cell? ⟨g, 0, none⟩ = some (.int .i64 2) ∧ W.cell? ⟨g, 1, none⟩ = some (.slice (some ⟨ga1, o1, none⟩) n c1) ∧ W.cell? ⟨g, 2, none⟩ = some (.slice (some ⟨ga2, o2, none⟩) n c2) ∧ W.cell? ⟨g, 3, none⟩ = some (.int .i64 ((k : Int) + 1)) ∧ W.cell? ⟨ga1, o1 + k, none⟩ = some (.int .i64 o) ∧ W.cell? ⟨ga2, o2 + k, none⟩ = some (.int .u64 v)) W3.drew := ⟨L3.out.drew.cR 0 0 rfl rfl, L3.out.drew.cR 0 1 rfl rfl, L3.out.drew.cR 0 2 rfl rfl, L3.out.drew.cR 0 3 rfl rfl, L3.out.drew.rR 1 rfl k hxo, L3.out.drew.rR 2 rfl k hyv⟩
  have hc := ro_store L3.out.drew 2 (by decide) o hl x hx v
  have c3_3_0 : W3.cell? ⟨gr, 0, none⟩ = some (.int .i64 0) := L3.out.cR 3 0 rfl rfl
  have c3_3_1 : W3.cell? ⟨gr, 1, none⟩ = some (.int .i64 0) := L3.out.cR 3 1 rfl rfl
  have c3_3_2 : W3.cell? ⟨gr, 2, none⟩ = some (.int .i64 0) := L3.out.cR 3 2 rfl rfl
  have c3_3_3 : W3.cell? ⟨gr, 3, none⟩ = some (.int .u64 0) := L3.out.cR 3 3 rfl rfl
  have c3_3_4 : W3.cell? ⟨gr, 4, none⟩ = some (.int .u64 0) := L3.out.cR 3 4 rfl rfl
  have c3_3_5 : W3.cell? ⟨gr, 5, none⟩ = some (.bool false) := L3.out.cR 3 5 rfl rfl
  have hka : ∀ W', Lo w0 lo hi b rb q A (upd B 2 o v) (X ++ [bx g TQs #[.int .i64 2, .slice (some ⟨ga1, o1, none⟩) n c1, .slice (some ⟨ga2, o2, none⟩) n c2, .int .i64 ((k : Int) + 1)], rd .i64 (.slice (some ⟨ga1, o1, none⟩) n c1) xs, rd .u64 (.slice (some ⟨ga2, o2, none⟩) n c2) ys, bx gr 59 #[.int .i64 0, .int .i64 0, .int .i64 0, .int .u64 0, .int .u64 0, .bool false]]) W' → ((fun W : World => W.cell? ⟨g, 0, none⟩ = some (.int .i64 2) ∧ W.cell? ⟨g, 1, none⟩ = some (.slice (some ⟨ga1, o1, none⟩) n c1) ∧ W.cell? ⟨g, 2, none⟩ = some (.slice (some ⟨ga2, o2, none⟩) n c2) ∧ W.cell? ⟨g, 3, none⟩ = some (.int .i64 ((k : Int) + 1)) ∧ W.cell? ⟨ga1, o1 + k, none⟩ = some (.int .i64 o) ∧ W.cell? ⟨ga2, o2 + k, none⟩ = some (.int .u64 v)) W' ∧ (fun W : World => W.cell? ⟨g, 0, none⟩ = some (.int .i64 2) ∧ W.cell? ⟨g, 1, none⟩ = some (.slice (some ⟨ga1, o1, none⟩) n c1) ∧ W.cell? ⟨g, 2, none⟩ = some (.slice (some ⟨ga2, o2, none⟩) n c2) ∧ W.cell? ⟨g, 3, none⟩ = some (.int .i64 ((k : Int) + 1)) ∧ W.cell? ⟨ga1, o1 + k, none⟩ = some (.int .i64 o) ∧ W.cell? ⟨ga2, o2 + k, none⟩ = some (.int .u64 v)) (((((((W'.setCell ⟨gr, 0, none⟩ (.int .i64 2)).setCell ⟨gr, 1, none⟩ (.int .i64 2)).setCell ⟨gr, 2, none⟩ (.int .i64 o)).setCell ⟨gr, 3, none⟩ (.int .u64 x)).setCell ⟨gr, 4, none⟩ (.int .u64 v)).setCell ⟨gr, 5, none⟩ (.bool true))) ∧ Mem W' gr 59 #[.int .i64 0, .int .i64 0, .int .i64 0, .int .u64 0, .int .u64 0, .bool false]) := fun W' h => ⟨⟨h.cR 0 0 rfl rfl, h.cR 0 1 rfl rfl, h.cR 0 2 rfl rfl, h.cR 0 3 rfl rfl, h.rR 1 rfl k hxo, h.rR 2 rfl k hyv⟩, ⟨(h.sixR 3 rfl (.int .i64 2) (.int .i64 2) (.int .i64 o) (.int .u64 x) (.int .u64 v) (.bool true)).cR 0 0 rfl rfl, (h.sixR 3 rfl (.int .i64 2) (.int .i64 2) (.int .i64 o) (.int .u64 x) (.int .u64 v) (.bool true)).cR 0 1 rfl rfl, (h.sixR 3 rfl (.int .i64 2) (.int .i64 2) (.int .i64 o) (.int .u64 x) (.int .u64 v) (.bool true)).cR 0 2 rfl rfl, (h.sixR 3 rfl (.int .i64 2) (.int .i64 2) (.int .i64 o) (.int .u64 x) (.int .u64 v) (.bool true)).cR 0 3 rfl rfl, (h.sixR 3 rfl (.int .i64 2) (.int .i64 2) (.int .i64 o) (.int .u64 x) (.int .u64 v) (.bool true)).rR 1 rfl k hxo, (h.sixR 3 rfl (.int .i64 2) (.int .i64 2) (.int .i64 o) (.int .u64 x) (.int .u64 v) (.bool true)).rR 2 rfl k hyv⟩, h.memR 3 rfl⟩
  go_region_held3 (fun W : World => W.cell? ⟨g, 0, none⟩ = some (.int .i64 2) ∧ W.cell? ⟨g, 1, none⟩ = some (.slice (some ⟨ga1, o1, none⟩) n c1) ∧ W.cell? ⟨g, 2, none⟩ = some (.slice (some ⟨ga2, o2, none⟩) n c2) ∧ W.cell? ⟨g, 3, none⟩ = some (.int .i64 ((k : Int) + 1)) ∧ W.cell? ⟨ga1, o1 + k, none⟩ = some (.int .i64 o) ∧ W.cell? ⟨ga2, o2 + k, none⟩ = some (.int .u64 v)) (first | (with_reducible exact hs0) | (with_reducible assumption)) (first | (go_at_call 34; (with_reducible refine hc.mono ?_); rintro e w2' ⟨rfl, hL⟩; obtain ⟨hk1, hk2, m0⟩ := hka _ hL; have r0_0 := m0.cell 0; have r0_1 := m0.cell 1; have r0_2 := m0.cell 2; have r0_3 := m0.cell 3; have r0_4 := m0.cell 4; have r0_5 := m0.cell 5; have r0_z := m0.frozen))
  have L4 : Hid (Lo w0 lo hi b rb q A (upd B 2 o v) (X ++ [bx g TQs #[.int .i64 2, .slice (some ⟨ga1, o1, none⟩) n c1, .slice (some ⟨ga2, o2, none⟩) n c2, .int .i64 ((k : Int) + 1)], rd .i64 (.slice (some ⟨ga1, o1, none⟩) n c1) xs, rd .u64 (.slice (some ⟨ga2, o2, none⟩) n c2) ys, bx gr 59 #[.int .i64 0, .int .i64 0, .int .i64 0, .int .u64 0, .int .u64 0, .bool false]]) w2') := Lib.hid hL
  clear hs0 hc hka hk1 hk2 hL L3 c3_0_0 c3_0_1 c3_0_2 c3_0_3 ra rv c3_3_0 c3_3_1 c3_3_2 c3_3_3 c3_3_4 c3_3_5
  go_wp2
  have L5 : Hid (Lo w0 lo hi b rb q A (upd B 2 o v) (X ++ [bx g TQs #[.int .i64 2, .slice (some ⟨ga1, o1, none⟩) n c1, .slice (some ⟨ga2, o2, none⟩) n c2, .int .i64 ((k : Int) + 1)], rd .i64 (.slice (some ⟨ga1, o1, none⟩) n c1) xs, rd .u64 (.slice (some ⟨ga2, o2, none⟩) n c2) ys, bx gr 59 #[.int .i64 2, .int .i64 2, .int .i64 o, .int .u64 x, .int .u64 v, .bool true]]) (((((((w2'.setCell ⟨gr, 0, none⟩ (.int .i64 2)).setCell ⟨gr, 1, none⟩ (.int .i64 2)).setCell ⟨gr, 2, none⟩ (.int .i64 o)).setCell ⟨gr, 3, none⟩ (.int .u64 x)).setCell ⟨gr, 4, none⟩ (.int .u64 v)).setCell ⟨gr, 5, none⟩ (.bool true)))) := Lib.hid (L4.out.sixR 3 rfl (.int .i64 2) (.int .i64 2) (.int .i64 o) (.int .u64 x) (.int .u64 v) (.bool true))
  obtain ⟨V, hV⟩ : ∃ V, ((((((w2'.setCell ⟨gr, 0, none⟩ (.int .i64 2)).setCell ⟨gr, 1, none⟩ (.int .i64 2)).setCell ⟨gr, 2, none⟩ (.int .i64 o)).setCell ⟨gr, 3, none⟩ (.int .u64 x)).setCell ⟨gr, 4, none⟩ (.int .u64 v)).setCell ⟨gr, 5, none⟩ (.bool true)) = V := ⟨_, rfl⟩
  rw [hV] at L5 ⊢
  clear hV
  have hF : Lo w0 lo hi b rb q A (upd B 2 o v) (X ++ [bx g TQs #[.int .i64 2, .slice (some ⟨ga1, o1, none⟩) n c1, .slice (some ⟨ga2, o2, none⟩) n c2, .int .i64 ((k : Int) + 1)], rd .i64 (.slice (some ⟨ga1, o1, none⟩) n c1) xs, rd .u64 (.slice (some ⟨ga2, o2, none⟩) n c2) ys]) V := Lo.dropR (rs2 := [bx gr 59 #[.int .i64 2, .int .i64 2, .int .i64 o, .int .u64 x, .int .u64 v, .bool true]]) L5.out
  refine bodyPost_ret (v := .agg #[.int .i64 2, .int .i64 2, .int .i64 o, .int .u64 x, .int .u64 v, .bool true]) (results_cell_row rfl _ _ gr 59 #[.int .i64 2, .int .i64 2, .int .i64 o, .int .u64 x, .int .u64 v, .bool true] (0, 0) _ (by simp) (L5.out.memR 3 rfl) Tryz.underlying59 rfl (by kernel_rfl)) rfl ?_
  exact ⟨rfl, hF⟩

end Go.Proofs.YtphnadchdhblpaaGreat.LkZ
