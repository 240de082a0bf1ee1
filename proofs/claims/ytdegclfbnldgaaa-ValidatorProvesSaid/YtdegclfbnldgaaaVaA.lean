/-
  Contracts of package validator and of its reference, step by step, over both machines' cells and the machines' objects.
-/
import Derived.Test.YtdegclfbnldgaaaClnA
import Derived.Test.YtdegclfbnldgaaaWordE
import Derived.Deep.RegionLaw
import Derived.Deep.RegionHeld3
import Derived.Deep.Cut
import Derived.Deep.DeepCutAuto
import Derived.Deep.CutBlock
import Derived.BigQuiet
import Derived.Deep.QuietTactic
namespace Go.Proofs.Ytdegclfbnldgaaa.VaA
open Go.ChangeShapes Go.WideShapes Go.ChangeAt Go.RowKit
open PlainT BlkW LayS LayA CelS CelM CelP CelV CelN CelO CelF LabD LabR LabP LabS CelLo WordC RsA ObjA ClnA
set_option linter.unusedVariables false
set_option maxHeartbeats 2000000
set_option maxRecDepth 100000

abbrev TCk : TypeId := 117
abbrev TQc : TypeId := 75

theorem ck_done {w : World} {g n c : Nat} {rv : Int} {p : Option Addr} {f : Bool} (M : Mem w g TCk #[.slice p n c, .int .i64 rv, .bool f]) {D : Bool} (hd : (f || decide (n = 0)) = D) : Calls Try.prog 35 #[.pointer (some ⟨g, 0, none⟩)] w fun e w' => e = .returned (.bool D) ∧ ∃ n, w' = w.drewN n := by
  have c0 := M.cell 0
  have c2 := M.cell 2
  simp at c0 c2
  clear M
  cases f with
  | true =>
    obtain rfl : true = D := hd
    go_enter Try.func35, Try.ntmps35
    go_wp2
    go_ret
    exact ⟨rfl, 0, rfl⟩
  | false =>
    have hd : decide (n = 0) = D := hd
    by_cases h : n = 0
    · have hb : ((n : Int) == 0) = true := by rw [beq_iff_eq]; omega
      obtain rfl : true = D := by rw [← hd]; exact (decide_eq_true h).symm
      clear h hd
      go_enter Try.func35, Try.ntmps35
      go_wp2
      go_ret
      exact ⟨rfl, 0, rfl⟩
    · have hb : ((n : Int) == 0) = false := by rw [beq_eq_false_iff_ne]; omega
      obtain rfl : false = D := by rw [← hd]; exact (decide_eq_false h).symm
      clear h hd
      go_enter Try.func35, Try.ntmps35
      go_wp2
      go_ret
      exact ⟨rfl, 0, rfl⟩

theorem qc_done {w : World} {g n c k : Nat} {rv : Int} {p : Option Addr} {f : Bool} (M : Mem w g TQc #[.slice p n c, .int .i64 rv, .int .i64 k, .bool f]) {D : Bool} (hd : (f || decide (k = n)) = D) : Calls Try.prog 36 #[.pointer (some ⟨g, 0, none⟩)] w fun e w' => e = .returned (.bool D) ∧ ∃ n, w' = w.drewN n := by
  have c0 := M.cell 0
  have c2 := M.cell 2
  have c3 := M.cell 3
  simp at c0 c2 c3
  clear M
  cases f with
  | true =>
    obtain rfl : true = D := hd
    go_enter Try.func36, Try.ntmps36
    go_upto_region 1 with (fail)
    go_quiet (fail)
    go_wp2
    go_ret
    exact ⟨rfl, nq, rfl⟩
  | false =>
    have hd : decide (k = n) = D := hd
    by_cases h : k = n
    · have hb : ((k : Int) == (n : Int)) = true := by rw [beq_iff_eq]; omega
      obtain rfl : true = D := by rw [← hd]; exact (decide_eq_true h).symm
      clear h hd
      go_enter Try.func36, Try.ntmps36
      go_upto_region 1 with (fail)
      go_quiet (fail)
      go_wp2
      go_ret
      exact ⟨rfl, nq, rfl⟩
    · have hb : ((k : Int) == (n : Int)) = false := by rw [beq_eq_false_iff_ne]; omega
      obtain rfl : false = D := by rw [← hd]; exact (decide_eq_false h).symm
      clear h hd
      go_enter Try.func36, Try.ntmps36
      go_upto_region 1 with (fail)
      go_quiet (fail)
      go_wp2
      go_ret
      exact ⟨rfl, nq, rfl⟩

theorem ck_failed {w : World} {g : Nat} {v : Value} {rv : Int} {f : Bool} (M : Mem w g TCk #[v, .int .i64 rv, .bool f]) : Calls Try.prog 37 #[.pointer (some ⟨g, 0, none⟩)] w fun e w' => e = .returned (.bool f) ∧ w = w' := by
  have c0 := M.cell 2
  simp at c0
  clear M
  go_enter Try.func37, Try.ntmps37
  go_wp2
  go_ret
  exact ⟨rfl, rfl⟩
theorem ck_new {w0 w : World} {lo hi b rb : Nat} {q : Cfg} {A B : Int → List Int} {X : List Ob} (h : Lo w0 lo hi b rb q A B X w) (v : Value) (rv : Int) (xs : List Int) (hr : RdR .i64 w v xs) (hl : xs.length ≤ 100000) : Calls Try.prog 32 #[v, .int .i64 rv] w fun e w' => ∃ g p c, e = .returned (.pointer (some ⟨g, 0, none⟩)) ∧ Lo w0 lo hi b rb q A B (X ++ [bx g TCk #[.slice p xs.length c, .int .i64 rv, .bool false], rd .i64 (.slice p xs.length c) xs]) w' := by
  have hc := c_int w v xs hr.slice hl
  have L0 := Lib.hid h
  obtain ⟨⟨p, cap, rfl, _⟩, _⟩ := hr
  clear h
  go_enter Try.func32, Try.ntmps32
  go_wp2_with (go_at_call 68; (with_reducible refine hc.mono ?_); rintro e w2 ⟨pl, cl, rfl, ho, hb⟩)
  have L1 := Lib.hid (Lo.addR (rs := []) (by rw [List.append_nil]; exact L0.out) hb (o := rd .i64 (.slice pl xs.length cl) xs) (rdr_own ho) fun x hx => (World.ownsRow.lt ho x (blk_mem hx)).1)
  have L2 := Lib.hid (Lo.newR (rs := [rd .i64 (.slice pl xs.length cl) xs]) L1.out TCk #[.slice pl xs.length cl, .int .i64 rv, .bool false])
  clear ho hb hc L0 L1
  go_ret
  exact ⟨_, pl, cl, rfl, L2.out.perm (List.Perm.append_left _ (List.Perm.swap ..))⟩
theorem qc_new {w0 w : World} {lo hi b rb : Nat} {q : Cfg} {A B : Int → List Int} {X : List Ob} {p : Option Addr} {n c : Nat} {rv : Int} (h : Lo w0 lo hi b rb q A B X w) : Calls Try.prog 34 #[.slice p n c, .int .i64 rv] w fun e w' => ∃ g, e = .returned (.pointer (some ⟨g, 0, none⟩)) ∧ Lo w0 lo hi b rb q A B (X ++ [bx g TQc #[.slice p n c, .int .i64 rv, .int .i64 0, .bool false]]) w' := by
  have L2 := Lib.hid (h.new TQc #[.slice p n c, .int .i64 rv, .int .i64 0, .bool false])
  clear h
  go_enter Try.func34, Try.ntmps34
  go_wp2
  go_ret
  exact ⟨_, rfl, L2.out⟩

theorem ck_over {w0 w : World} {lo hi b rb : Nat} {q : Cfg} {A B : Int → List Int} {X : List Ob} {g n c : Nat} {rv : Int} {p : Option Addr} {f : Bool} (hd : (f || decide (n = 0)) = true) (h : Lo w0 lo hi b rb q A B (X ++ [bx g TCk #[.slice p n c, .int .i64 rv, .bool f]]) w) : Calls Try.prog 38 #[.pointer (some ⟨g, 0, none⟩), .pointer (some ⟨b, 0, none⟩)] w fun e w' => e = .returned (accV 0 0 0 0 0 false) ∧ Lo w0 lo hi b rb q A B (X ++ [bx g TCk #[.slice p n c, .int .i64 rv, .bool f]]) w' := by
  have L0 := Lib.hid h
  clear h
  go_enter Try.func38, Try.ntmps38
  go_upto_region 1 with (fail)
  have L1 := Lib.hid (L0.out.newR 62 #[.int .i64 0, .int .i64 0, .int .i64 0, .int .u64 0, .int .u64 0, .bool false])
  obtain ⟨gr, hn⟩ : ∃ gr, w.heap.size = gr := ⟨_, rfl⟩
  rw [hn] at L1
  first | rw [hn] | skip
  clear hn
  obtain ⟨W1, hW⟩ : ∃ W', w.alloc (.cells #[.int .i64 0, .int .i64 0, .int .i64 0, .int .u64 0, .int .u64 0, .bool false] 62) = W' := ⟨_, rfl⟩
  rw [hW] at L1
  first | rw [hW] | skip
  clear hW
  have L1 : Hid (Lo w0 lo hi b rb q A B (X ++ [bx g TCk #[.slice p n c, .int .i64 rv, .bool f], bx gr 62 #[.int .i64 0, .int .i64 0, .int .i64 0, .int .u64 0, .int .u64 0, .bool false]]) W1) := L1
  clear L0
  have hdn := ck_done (L1.out.memR 0 rfl) hd
  go_upto_region 2 with ((go_at_call 35; (with_reducible refine hdn.mono ?_); rintro e w9 ⟨rfl, nq, rfl⟩))
  clear hdn
  have L2 : Hid (Lo w0 lo hi b rb q A B (X ++ [bx g TCk #[.slice p n c, .int .i64 rv, .bool f], bx gr 62 #[.int .i64 0, .int .i64 0, .int .i64 0, .int .u64 0, .int .u64 0, .bool false]]) (W1.drewN nq)) := Lib.hid (L1.out.drewN nq)
  obtain ⟨W2, hW⟩ : ∃ W', W1.drewN nq = W' := ⟨_, rfl⟩
  rw [hW] at L2
  first | rw [hW] | skip
  clear hW
  clear L1
  clear nq
  have c2_1_0 : W2.cell? ⟨gr, 0, none⟩ = some (.int .i64 0) := L2.out.cR 1 0 rfl rfl
  have z2_1_0 : W2.frozen? ⟨gr, 0, none⟩ = false := L2.out.zR 1 0 rfl
  have c2_1_1 : W2.cell? ⟨gr, 1, none⟩ = some (.int .i64 0) := L2.out.cR 1 1 rfl rfl
  have z2_1_1 : W2.frozen? ⟨gr, 1, none⟩ = false := L2.out.zR 1 1 rfl
  have c2_1_2 : W2.cell? ⟨gr, 2, none⟩ = some (.int .i64 0) := L2.out.cR 1 2 rfl rfl
  have z2_1_2 : W2.frozen? ⟨gr, 2, none⟩ = false := L2.out.zR 1 2 rfl
  have c2_1_3 : W2.cell? ⟨gr, 3, none⟩ = some (.int .u64 0) := L2.out.cR 1 3 rfl rfl
  have z2_1_3 : W2.frozen? ⟨gr, 3, none⟩ = false := L2.out.zR 1 3 rfl
  have c2_1_4 : W2.cell? ⟨gr, 4, none⟩ = some (.int .u64 0) := L2.out.cR 1 4 rfl rfl
  have z2_1_4 : W2.frozen? ⟨gr, 4, none⟩ = false := L2.out.zR 1 4 rfl
  have c2_1_5 : W2.cell? ⟨gr, 5, none⟩ = some (.bool false) := L2.out.cR 1 5 rfl rfl
  have z2_1_5 : W2.frozen? ⟨gr, 5, none⟩ = false := L2.out.zR 1 5 rfl
  go_wp2
  have L3 : Hid (Lo w0 lo hi b rb q A B (X ++ [bx g TCk #[.slice p n c, .int .i64 rv, .bool f], bx gr 62 #[.int .i64 0, .int .i64 0, .int .i64 0, .int .u64 0, .int .u64 0, .bool false]]) (((((((W2.setCell ⟨gr, 0, none⟩ (.int .i64 0)).setCell ⟨gr, 1, none⟩ (.int .i64 0)).setCell ⟨gr, 2, none⟩ (.int .i64 0)).setCell ⟨gr, 3, none⟩ (.int .u64 0)).setCell ⟨gr, 4, none⟩ (.int .u64 0)).setCell ⟨gr, 5, none⟩ (.bool false)))) := Lib.hid (L2.out.sixR 1 rfl (.int .i64 0) (.int .i64 0) (.int .i64 0) (.int .u64 0) (.int .u64 0) (.bool false))
  obtain ⟨V, hV⟩ : ∃ V, ((((((W2.setCell ⟨gr, 0, none⟩ (.int .i64 0)).setCell ⟨gr, 1, none⟩ (.int .i64 0)).setCell ⟨gr, 2, none⟩ (.int .i64 0)).setCell ⟨gr, 3, none⟩ (.int .u64 0)).setCell ⟨gr, 4, none⟩ (.int .u64 0)).setCell ⟨gr, 5, none⟩ (.bool false)) = V := ⟨_, rfl⟩
  rw [hV] at L3 ⊢
  clear hV
  have hF : Lo w0 lo hi b rb q A B (X ++ [bx g TCk #[.slice p n c, .int .i64 rv, .bool f]]) V := Lo.dropR (rs2 := [bx gr 62 #[.int .i64 0, .int .i64 0, .int .i64 0, .int .u64 0, .int .u64 0, .bool false]]) L3.out
  refine bodyPost_ret (v := .agg #[.int .i64 0, .int .i64 0, .int .i64 0, .int .u64 0, .int .u64 0, .bool false]) (results_cell_row rfl _ _ gr 62 #[.int .i64 0, .int .i64 0, .int .i64 0, .int .u64 0, .int .u64 0, .bool false] (0, 0) _ (by simp) (L3.out.memR 1 rfl) Try.underlying62 rfl (by kernel_rfl)) rfl ?_
  exact ⟨rfl, hF⟩

theorem qc_over {w0 w : World} {lo hi b rb : Nat} {q : Cfg} {A B : Int → List Int} {X : List Ob} {g n c k : Nat} {rv : Int} {p : Option Addr} {f : Bool} (hd : (f || decide (k = n)) = true) (h : Lo w0 lo hi b rb q A B (X ++ [bx g TQc #[.slice p n c, .int .i64 rv, .int .i64 k, .bool f]]) w) : Calls Try.prog 39 #[.pointer (some ⟨g, 0, none⟩), .pointer (some ⟨rb, 0, none⟩)] w fun e w' => e = .returned (accV 0 0 0 0 0 false) ∧ Lo w0 lo hi b rb q A B (X ++ [bx g TQc #[.slice p n c, .int .i64 rv, .int .i64 k, .bool f]]) w' := by
  have L0 := Lib.hid h
  clear h
  go_enter Try.func39, Try.ntmps39
  go_upto_region 1 with (fail)
  have L1 := Lib.hid (L0.out.newR 62 #[.int .i64 0, .int .i64 0, .int .i64 0, .int .u64 0, .int .u64 0, .bool false])
  obtain ⟨gr, hn⟩ : ∃ gr, w.heap.size = gr := ⟨_, rfl⟩
  rw [hn] at L1
  first | rw [hn] | skip
  clear hn
  obtain ⟨W1, hW⟩ : ∃ W', w.alloc (.cells #[.int .i64 0, .int .i64 0, .int .i64 0, .int .u64 0, .int .u64 0, .bool false] 62) = W' := ⟨_, rfl⟩
  rw [hW] at L1
  first | rw [hW] | skip
  clear hW
  have L1 : Hid (Lo w0 lo hi b rb q A B (X ++ [bx g TQc #[.slice p n c, .int .i64 rv, .int .i64 k, .bool f], bx gr 62 #[.int .i64 0, .int .i64 0, .int .i64 0, .int .u64 0, .int .u64 0, .bool false]]) W1) := L1
  clear L0
  have hdn := qc_done (L1.out.memR 0 rfl) hd
  go_upto_region 2 with ((go_at_call 36; (with_reducible refine hdn.mono ?_); rintro e w9 ⟨rfl, nq, rfl⟩))
  clear hdn
  have L2 : Hid (Lo w0 lo hi b rb q A B (X ++ [bx g TQc #[.slice p n c, .int .i64 rv, .int .i64 k, .bool f], bx gr 62 #[.int .i64 0, .int .i64 0, .int .i64 0, .int .u64 0, .int .u64 0, .bool false]]) (W1.drewN nq)) := Lib.hid (L1.out.drewN nq)
  obtain ⟨W2, hW⟩ : ∃ W', W1.drewN nq = W' := ⟨_, rfl⟩
  rw [hW] at L2
  first | rw [hW] | skip
  clear hW
  clear L1
  clear nq
  have c2_1_0 : W2.cell? ⟨gr, 0, none⟩ = some (.int .i64 0) := L2.out.cR 1 0 rfl rfl
  have z2_1_0 : W2.frozen? ⟨gr, 0, none⟩ = false := L2.out.zR 1 0 rfl
  have c2_1_1 : W2.cell? ⟨gr, 1, none⟩ = some (.int .i64 0) := L2.out.cR 1 1 rfl rfl
  have z2_1_1 : W2.frozen? ⟨gr, 1, none⟩ = false := L2.out.zR 1 1 rfl
  have c2_1_2 : W2.cell? ⟨gr, 2, none⟩ = some (.int .i64 0) := L2.out.cR 1 2 rfl rfl
  have z2_1_2 : W2.frozen? ⟨gr, 2, none⟩ = false := L2.out.zR 1 2 rfl
  have c2_1_3 : W2.cell? ⟨gr, 3, none⟩ = some (.int .u64 0) := L2.out.cR 1 3 rfl rfl
  have z2_1_3 : W2.frozen? ⟨gr, 3, none⟩ = false := L2.out.zR 1 3 rfl
  have c2_1_4 : W2.cell? ⟨gr, 4, none⟩ = some (.int .u64 0) := L2.out.cR 1 4 rfl rfl
  have z2_1_4 : W2.frozen? ⟨gr, 4, none⟩ = false := L2.out.zR 1 4 rfl
  have c2_1_5 : W2.cell? ⟨gr, 5, none⟩ = some (.bool false) := L2.out.cR 1 5 rfl rfl
  have z2_1_5 : W2.frozen? ⟨gr, 5, none⟩ = false := L2.out.zR 1 5 rfl
  go_wp2
  have L3 : Hid (Lo w0 lo hi b rb q A B (X ++ [bx g TQc #[.slice p n c, .int .i64 rv, .int .i64 k, .bool f], bx gr 62 #[.int .i64 0, .int .i64 0, .int .i64 0, .int .u64 0, .int .u64 0, .bool false]]) (((((((W2.setCell ⟨gr, 0, none⟩ (.int .i64 0)).setCell ⟨gr, 1, none⟩ (.int .i64 0)).setCell ⟨gr, 2, none⟩ (.int .i64 0)).setCell ⟨gr, 3, none⟩ (.int .u64 0)).setCell ⟨gr, 4, none⟩ (.int .u64 0)).setCell ⟨gr, 5, none⟩ (.bool false)))) := Lib.hid (L2.out.sixR 1 rfl (.int .i64 0) (.int .i64 0) (.int .i64 0) (.int .u64 0) (.int .u64 0) (.bool false))
  obtain ⟨V, hV⟩ : ∃ V, ((((((W2.setCell ⟨gr, 0, none⟩ (.int .i64 0)).setCell ⟨gr, 1, none⟩ (.int .i64 0)).setCell ⟨gr, 2, none⟩ (.int .i64 0)).setCell ⟨gr, 3, none⟩ (.int .u64 0)).setCell ⟨gr, 4, none⟩ (.int .u64 0)).setCell ⟨gr, 5, none⟩ (.bool false)) = V := ⟨_, rfl⟩
  rw [hV] at L3 ⊢
  clear hV
  have hF : Lo w0 lo hi b rb q A B (X ++ [bx g TQc #[.slice p n c, .int .i64 rv, .int .i64 k, .bool f]]) V := Lo.dropR (rs2 := [bx gr 62 #[.int .i64 0, .int .i64 0, .int .i64 0, .int .u64 0, .int .u64 0, .bool false]]) L3.out
  refine bodyPost_ret (v := .agg #[.int .i64 0, .int .i64 0, .int .i64 0, .int .u64 0, .int .u64 0, .bool false]) (results_cell_row rfl _ _ gr 62 #[.int .i64 0, .int .i64 0, .int .i64 0, .int .u64 0, .int .u64 0, .bool false] (0, 0) _ (by simp) (L3.out.memR 1 rfl) Try.underlying62 rfl (by kernel_rfl)) rfl ?_
  exact ⟨rfl, hF⟩

theorem ck_step {w0 w : World} {lo hi b rb : Nat} {q : Cfg} {A B : Int → List Int} {X : List Ob} {g gl ol n c : Nat} {rest : List Int} (n1 : 1 ≤ n) (nc : n ≤ c) {o : Nat} (hl : o < (A 2).length) {x : Int} (hx : (A 2).getD o 0 = x) (x0 : 0 ≤ x) (x1 : x ≤ 18446744073709551615) {v rv : Int} (hv : x / 64 = v) {F : Bool} (hF : decide (rv < v) = F) (h : Lo w0 lo hi b rb q A B (X ++ [bx g TCk #[.slice (some ⟨gl, ol, none⟩) n c, .int .i64 rv, .bool false], rd .i64 (.slice (some ⟨gl, ol, none⟩) n c) ((o : Int) :: rest)]) w) : Calls Try.prog 38 #[.pointer (some ⟨g, 0, none⟩), .pointer (some ⟨b, 0, none⟩)] w fun e w' => e = .returned (accV 1 2 o x x true) ∧ ∃ vl', Lo w0 lo hi b rb q A B (X ++ [bx g TCk #[vl', .int .i64 rv, .bool F], rd .i64 vl' rest]) w' := by
  have L0 := Lib.hid h
  clear h
  have hnI : (0 : Int) < (n : Int) := by omega
  have hnN : 0 < n := n1
  have hd : (false || decide (n = 0)) = false := by simp; omega
  obtain ⟨pt, hsl, hpb, htl⟩ := tail_run (K := .i64) Try.underlying47 (fun wx => by kernel_rfl) gl ol n c n1 nc
  have HT := Lib.hid (And.intro hpb htl)
  clear hpb htl
  go_enter Try.func38, Try.ntmps38
  go_upto_region 1 with (fail)
  have L1 := Lib.hid (L0.out.newR 62 #[.int .i64 0, .int .i64 0, .int .i64 0, .int .u64 0, .int .u64 0, .bool false])
  obtain ⟨gr, hn⟩ : ∃ gr, w.heap.size = gr := ⟨_, rfl⟩
  rw [hn] at L1
  first | rw [hn] | skip
  clear hn
  obtain ⟨W1, hW⟩ : ∃ W', w.alloc (.cells #[.int .i64 0, .int .i64 0, .int .i64 0, .int .u64 0, .int .u64 0, .bool false] 62) = W' := ⟨_, rfl⟩
  rw [hW] at L1
  first | rw [hW] | skip
  clear hW
  have L1 : Hid (Lo w0 lo hi b rb q A B (X ++ [bx g TCk #[.slice (some ⟨gl, ol, none⟩) n c, .int .i64 rv, .bool false], rd .i64 (.slice (some ⟨gl, ol, none⟩) n c) ((o : Int) :: rest), bx gr 62 #[.int .i64 0, .int .i64 0, .int .i64 0, .int .u64 0, .int .u64 0, .bool false]]) W1) := L1
  clear L0
  have hdn := ck_done (L1.out.memR 0 rfl) hd
  go_upto_region 3 with ((go_at_call 35; (with_reducible refine hdn.mono ?_); rintro e w9 ⟨rfl, nq, rfl⟩))
  clear hdn
  have L2 : Hid (Lo w0 lo hi b rb q A B (X ++ [bx g TCk #[.slice (some ⟨gl, ol, none⟩) n c, .int .i64 rv, .bool false], rd .i64 (.slice (some ⟨gl, ol, none⟩) n c) ((o : Int) :: rest), bx gr 62 #[.int .i64 0, .int .i64 0, .int .i64 0, .int .u64 0, .int .u64 0, .bool false]]) (W1.drewN nq)) := Lib.hid (L1.out.drewN nq)
  obtain ⟨W2, hW⟩ : ∃ W', W1.drewN nq = W' := ⟨_, rfl⟩
  rw [hW] at L2
  first | rw [hW] | skip
  clear hW
  clear L1
  clear nq
  have c2_0_0 : W2.cell? ⟨g, 0, none⟩ = some (.slice (some ⟨gl, ol, none⟩) n c) := L2.out.cR 0 0 rfl rfl
  have r2_1 : W2.cell? ⟨gl, ol, none⟩ = some (.int .i64 o) := L2.out.rR 1 rfl 0 rfl
  have hc := lo_load L2.out 2 (by decide) o hl x hx
  go_upto_region 4 with ((go_at_call 48; refine hc.mono ?_; rintro e w1 ⟨rfl, hL⟩))
  have L3 : Hid (Lo w0 lo hi b rb q A B (X ++ [bx g TCk #[.slice (some ⟨gl, ol, none⟩) n c, .int .i64 rv, .bool false], rd .i64 (.slice (some ⟨gl, ol, none⟩) n c) ((o : Int) :: rest), bx gr 62 #[.int .i64 0, .int .i64 0, .int .i64 0, .int .u64 0, .int .u64 0, .bool false]]) w1) := Lib.hid hL
  clear hc hL L2 c2_0_0 r2_1
  have L4 := Lib.hid (L3.out.newR 62 #[.int .i64 1, .int .i64 2, .int .i64 o, .int .u64 x, .int .u64 x, .bool true])
  obtain ⟨ga, hn⟩ : ∃ ga, w1.heap.size = ga := ⟨_, rfl⟩
  rw [hn] at L4
  first | rw [hn] | skip
  clear hn
  obtain ⟨W4, hW⟩ : ∃ W', w1.alloc (.cells #[.int .i64 1, .int .i64 2, .int .i64 o, .int .u64 x, .int .u64 x, .bool true] 62) = W' := ⟨_, rfl⟩
  rw [hW] at L4
  first | rw [hW] | skip
  clear hW
  have L4 : Hid (Lo w0 lo hi b rb q A B (X ++ [bx g TCk #[.slice (some ⟨gl, ol, none⟩) n c, .int .i64 rv, .bool false], rd .i64 (.slice (some ⟨gl, ol, none⟩) n c) ((o : Int) :: rest), bx gr 62 #[.int .i64 0, .int .i64 0, .int .i64 0, .int .u64 0, .int .u64 0, .bool false], bx ga 62 #[.int .i64 1, .int .i64 2, .int .i64 o, .int .u64 x, .int .u64 x, .bool true]]) W4) := L4
  clear L3
  have c4_0_0 : W4.cell? ⟨g, 0, none⟩ = some (.slice (some ⟨gl, ol, none⟩) n c) := L4.out.cR 0 0 rfl rfl
  have z4_0_0 : W4.frozen? ⟨g, 0, none⟩ = false := L4.out.zR 0 0 rfl
  go_upto_region 5 with (fail)
  have L5 : Hid (Lo w0 lo hi b rb q A B (X ++ [bx g TCk #[.slice pt (n - 1) (c - 1), .int .i64 rv, .bool false], rd .i64 (.slice (some ⟨gl, ol, none⟩) n c) ((o : Int) :: rest), bx gr 62 #[.int .i64 0, .int .i64 0, .int .i64 0, .int .u64 0, .int .u64 0, .bool false], bx ga 62 #[.int .i64 1, .int .i64 2, .int .i64 o, .int .u64 x, .int .u64 x, .bool true]]) (W4.setCell ⟨g, 0, none⟩ (.slice pt (n - 1) (c - 1)))) := Lib.hid (L4.out.putR 0 0 (.slice pt (n - 1) (c - 1)) rfl (by rfl))
  obtain ⟨W5, hW⟩ : ∃ W', W4.setCell ⟨g, 0, none⟩ (.slice pt (n - 1) (c - 1)) = W' := ⟨_, rfl⟩
  rw [hW] at L5
  first | rw [hW] | skip
  clear hW
  clear L4 c4_0_0 z4_0_0
  have L6 : Hid (Lo w0 lo hi b rb q A B (X ++ [bx g TCk #[.slice pt (n - 1) (c - 1), .int .i64 rv, .bool false], rd .i64 (.slice pt (n - 1) (c - 1)) rest, bx gr 62 #[.int .i64 0, .int .i64 0, .int .i64 0, .int .u64 0, .int .u64 0, .bool false], bx ga 62 #[.int .i64 1, .int .i64 2, .int .i64 o, .int .u64 x, .int .u64 x, .bool true]]) W5) := Lib.hid (L5.out.seeR 1 rfl (HT.out.2 _ _ _ (L5.out.isR 1 rfl)) (fun x hx => mem_blk (v := .slice (some ⟨gl, ol, none⟩) n c) (HT.out.1.symm.trans (blk_mem hx))))
  clear L5
  have hve := same_of (w_version x x0 x1)
  simp only [hv] at hve
  have d0 : W5.drew.cell? ⟨ga, 3, none⟩ = some (.int .u64 x) := L6.out.drew.cR 3 3 rfl rfl
  have d1 : W5.drew.cell? ⟨g, 1, none⟩ = some (.int .i64 rv) := L6.out.drew.cR 0 1 rfl rfl
  have d2 : W5.drew.cell? ⟨g, 2, none⟩ = some (.bool false) := L6.out.drew.cR 0 2 rfl rfl
  have d3 : W5.drew.frozen? ⟨g, 2, none⟩ = false := L6.out.drew.zR 0 2 rfl
  have hs0 : (fun W : World => W.cell? ⟨ga, 3, none⟩ = some (.int .u64 x) ∧ W.cell? ⟨g, 1, none⟩ = some (.int .i64 rv)) W5.drew := ⟨d0, d1⟩
  have hs1 : (fun W : World => W.cell? ⟨ga, 3, none⟩ = some (.int .u64 x) ∧ W.cell? ⟨g, 1, none⟩ = some (.int .i64 rv)) (W5.setCell ⟨g, 2, none⟩ (.bool F)).drew := ⟨(L6.out.putR 0 2 (.bool F) rfl (by rfl)).drew.cR 3 3 rfl rfl, (L6.out.putR 0 2 (.bool F) rfl (by rfl)).drew.cR 0 1 rfl rfl⟩
  go_region_held3 (fun W : World => W.cell? ⟨ga, 3, none⟩ = some (.int .u64 x) ∧ W.cell? ⟨g, 1, none⟩ = some (.int .i64 rv)) (first | (with_reducible exact hs0) | (with_reducible exact hs1) | (with_reducible assumption)) (first | (go_at_call 69; (with_reducible refine (hve _).mono ?_); rintro e w9 ⟨rfl, rfl⟩))
  clear hs0 hs1 hve d0 d1 d2 d3
  have L7 : Hid (Lo w0 lo hi b rb q A B (X ++ [bx g TCk #[.slice pt (n - 1) (c - 1), .int .i64 rv, .bool F], rd .i64 (.slice pt (n - 1) (c - 1)) rest, bx gr 62 #[.int .i64 0, .int .i64 0, .int .i64 0, .int .u64 0, .int .u64 0, .bool false], bx ga 62 #[.int .i64 1, .int .i64 2, .int .i64 o, .int .u64 x, .int .u64 x, .bool true]]) ((W5.setCell ⟨g, 2, none⟩ (.bool F)).drew)) := Lib.hid ((L6.out.putR 0 2 (.bool F) rfl (by rfl)).drew)
  obtain ⟨W7, hW⟩ : ∃ W', (W5.setCell ⟨g, 2, none⟩ (.bool F)).drew = W' := ⟨_, rfl⟩
  rw [hW] at L7
  first | rw [hW] | skip
  clear hW
  clear L6
  have c7_2_0 : W7.cell? ⟨gr, 0, none⟩ = some (.int .i64 0) := L7.out.cR 2 0 rfl rfl
  have z7_2_0 : W7.frozen? ⟨gr, 0, none⟩ = false := L7.out.zR 2 0 rfl
  have c7_3_0 : W7.cell? ⟨ga, 0, none⟩ = some (.int .i64 1) := L7.out.cR 3 0 rfl rfl
  have c7_2_1 : W7.cell? ⟨gr, 1, none⟩ = some (.int .i64 0) := L7.out.cR 2 1 rfl rfl
  have z7_2_1 : W7.frozen? ⟨gr, 1, none⟩ = false := L7.out.zR 2 1 rfl
  have c7_3_1 : W7.cell? ⟨ga, 1, none⟩ = some (.int .i64 2) := L7.out.cR 3 1 rfl rfl
  have c7_2_2 : W7.cell? ⟨gr, 2, none⟩ = some (.int .i64 0) := L7.out.cR 2 2 rfl rfl
  have z7_2_2 : W7.frozen? ⟨gr, 2, none⟩ = false := L7.out.zR 2 2 rfl
  have c7_3_2 : W7.cell? ⟨ga, 2, none⟩ = some (.int .i64 o) := L7.out.cR 3 2 rfl rfl
  have c7_2_3 : W7.cell? ⟨gr, 3, none⟩ = some (.int .u64 0) := L7.out.cR 2 3 rfl rfl
  have z7_2_3 : W7.frozen? ⟨gr, 3, none⟩ = false := L7.out.zR 2 3 rfl
  have c7_3_3 : W7.cell? ⟨ga, 3, none⟩ = some (.int .u64 x) := L7.out.cR 3 3 rfl rfl
  have c7_2_4 : W7.cell? ⟨gr, 4, none⟩ = some (.int .u64 0) := L7.out.cR 2 4 rfl rfl
  have z7_2_4 : W7.frozen? ⟨gr, 4, none⟩ = false := L7.out.zR 2 4 rfl
  have c7_3_4 : W7.cell? ⟨ga, 4, none⟩ = some (.int .u64 x) := L7.out.cR 3 4 rfl rfl
  have c7_2_5 : W7.cell? ⟨gr, 5, none⟩ = some (.bool false) := L7.out.cR 2 5 rfl rfl
  have z7_2_5 : W7.frozen? ⟨gr, 5, none⟩ = false := L7.out.zR 2 5 rfl
  have c7_3_5 : W7.cell? ⟨ga, 5, none⟩ = some (.bool true) := L7.out.cR 3 5 rfl rfl
  go_wp2
  have L8 : Hid (Lo w0 lo hi b rb q A B (X ++ [bx g TCk #[.slice pt (n - 1) (c - 1), .int .i64 rv, .bool F], rd .i64 (.slice pt (n - 1) (c - 1)) rest, bx gr 62 #[.int .i64 1, .int .i64 2, .int .i64 o, .int .u64 x, .int .u64 x, .bool true], bx ga 62 #[.int .i64 1, .int .i64 2, .int .i64 o, .int .u64 x, .int .u64 x, .bool true]]) (((((((W7.setCell ⟨gr, 0, none⟩ (.int .i64 1)).setCell ⟨gr, 1, none⟩ (.int .i64 2)).setCell ⟨gr, 2, none⟩ (.int .i64 o)).setCell ⟨gr, 3, none⟩ (.int .u64 x)).setCell ⟨gr, 4, none⟩ (.int .u64 x)).setCell ⟨gr, 5, none⟩ (.bool true)))) := Lib.hid (L7.out.sixR 2 rfl (.int .i64 1) (.int .i64 2) (.int .i64 o) (.int .u64 x) (.int .u64 x) (.bool true))
  obtain ⟨V, hV⟩ : ∃ V, ((((((W7.setCell ⟨gr, 0, none⟩ (.int .i64 1)).setCell ⟨gr, 1, none⟩ (.int .i64 2)).setCell ⟨gr, 2, none⟩ (.int .i64 o)).setCell ⟨gr, 3, none⟩ (.int .u64 x)).setCell ⟨gr, 4, none⟩ (.int .u64 x)).setCell ⟨gr, 5, none⟩ (.bool true)) = V := ⟨_, rfl⟩
  rw [hV] at L8 ⊢
  clear hV
  have hF : Lo w0 lo hi b rb q A B (X ++ [bx g TCk #[.slice pt (n - 1) (c - 1), .int .i64 rv, .bool F], rd .i64 (.slice pt (n - 1) (c - 1)) rest]) V := Lo.dropR (rs2 := [bx gr 62 #[.int .i64 1, .int .i64 2, .int .i64 o, .int .u64 x, .int .u64 x, .bool true], bx ga 62 #[.int .i64 1, .int .i64 2, .int .i64 o, .int .u64 x, .int .u64 x, .bool true]]) L8.out
  refine bodyPost_ret (v := .agg #[.int .i64 1, .int .i64 2, .int .i64 o, .int .u64 x, .int .u64 x, .bool true]) (results_cell_row rfl _ _ gr 62 #[.int .i64 1, .int .i64 2, .int .i64 o, .int .u64 x, .int .u64 x, .bool true] (0, 0) _ (by simp) (L8.out.memR 2 rfl) Try.underlying62 rfl (by kernel_rfl)) rfl ?_
  exact ⟨rfl, _, hF⟩

theorem qc_step {w0 w : World} {lo hi b rb : Nat} {q : Cfg} {A B : Int → List Int} {X : List Ob} {g gl ol n c k : Nat} {xs : List Int} (hk : k < n) (hk1 : k < 1000000) {o : Nat} (hl : o < (B 2).length) {x : Int} (hx : (B 2).getD o 0 = x) (x0 : 0 ≤ x) (x1 : x ≤ 18446744073709551615) {v rv : Int} (hv : x / 64 = v) {F : Bool} (hF : decide (rv < v) = F) (hxo : xs[k]? = some (o : Int)) (h : Lo w0 lo hi b rb q A B (X ++ [bx g TQc #[.slice (some ⟨gl, ol, none⟩) n c, .int .i64 rv, .int .i64 k, .bool false], rd .i64 (.slice (some ⟨gl, ol, none⟩) n c) xs]) w) : Calls Try.prog 39 #[.pointer (some ⟨g, 0, none⟩), .pointer (some ⟨rb, 0, none⟩)] w fun e w' => e = .returned (accV 1 2 o x x true) ∧ Lo w0 lo hi b rb q A B (X ++ [bx g TQc #[.slice (some ⟨gl, ol, none⟩) n c, .int .i64 rv, .int .i64 ((k : Int) + 1), .bool F], rd .i64 (.slice (some ⟨gl, ol, none⟩) n c) xs]) w' := by
  have L0 := Lib.hid h
  clear h
  have hkI : (k : Int) < n := by omega
  have hk0 : (0 : Int) ≤ k := by omega
  have hw1 : IntKind.i64.wrap ((k : Int) + 1) = (k : Int) + 1 := IntWalk.i64_in _ (by omega)
  have hd : (false || decide (k = n)) = false := by simp; omega
  go_enter Try.func39, Try.ntmps39
  go_upto_region 1 with (fail)
  have L1 := Lib.hid (L0.out.newR 62 #[.int .i64 0, .int .i64 0, .int .i64 0, .int .u64 0, .int .u64 0, .bool false])
  obtain ⟨gr, hn⟩ : ∃ gr, w.heap.size = gr := ⟨_, rfl⟩
  rw [hn] at L1
  first | rw [hn] | skip
  clear hn
  obtain ⟨W1, hW⟩ : ∃ W', w.alloc (.cells #[.int .i64 0, .int .i64 0, .int .i64 0, .int .u64 0, .int .u64 0, .bool false] 62) = W' := ⟨_, rfl⟩
  rw [hW] at L1
  first | rw [hW] | skip
  clear hW
  have L1 : Hid (Lo w0 lo hi b rb q A B (X ++ [bx g TQc #[.slice (some ⟨gl, ol, none⟩) n c, .int .i64 rv, .int .i64 k, .bool false], rd .i64 (.slice (some ⟨gl, ol, none⟩) n c) xs, bx gr 62 #[.int .i64 0, .int .i64 0, .int .i64 0, .int .u64 0, .int .u64 0, .bool false]]) W1) := L1
  clear L0
  have hdn := qc_done (L1.out.memR 0 rfl) hd
  go_upto_region 3 with ((go_at_call 36; (with_reducible refine hdn.mono ?_); rintro e w9 ⟨rfl, nq, rfl⟩))
  clear hdn
  have L2 : Hid (Lo w0 lo hi b rb q A B (X ++ [bx g TQc #[.slice (some ⟨gl, ol, none⟩) n c, .int .i64 rv, .int .i64 k, .bool false], rd .i64 (.slice (some ⟨gl, ol, none⟩) n c) xs, bx gr 62 #[.int .i64 0, .int .i64 0, .int .i64 0, .int .u64 0, .int .u64 0, .bool false]]) (W1.drewN nq)) := Lib.hid (L1.out.drewN nq)
  obtain ⟨W2, hW⟩ : ∃ W', W1.drewN nq = W' := ⟨_, rfl⟩
  rw [hW] at L2
  first | rw [hW] | skip
  clear hW
  clear L1
  clear nq
  have c2_0_0 : W2.cell? ⟨g, 0, none⟩ = some (.slice (some ⟨gl, ol, none⟩) n c) := L2.out.cR 0 0 rfl rfl
  have c2_0_2 : W2.cell? ⟨g, 2, none⟩ = some (.int .i64 k) := L2.out.cR 0 2 rfl rfl
  have ro : W2.cell? ⟨gl, ol + k, none⟩ = some (.int .i64 o) := L2.out.rR 1 rfl k hxo
  go_cut [5] (fun pv wc => ∃ ga : Nat, pv = .pointer (some ⟨ga, 0, none⟩) ∧ Hid (Lo w0 lo hi b rb q A B (X ++ [bx g TQc #[.slice (some ⟨gl, ol, none⟩) n c, .int .i64 rv, .int .i64 k, .bool false], rd .i64 (.slice (some ⟨gl, ol, none⟩) n c) xs, bx gr 62 #[.int .i64 0, .int .i64 0, .int .i64 0, .int .u64 0, .int .u64 0, .bool false], bx ga 62 #[.int .i64 1, .int .i64 2, .int .i64 o, .int .u64 x, .int .u64 x, .bool true]]) wc))
  case first =>
    have Lz : Hid (Lo w0 lo hi b rb q A B (X ++ [bx g TQc #[.slice (some ⟨gl, ol, none⟩) n c, .int .i64 rv, .int .i64 k, .bool false], rd .i64 (.slice (some ⟨gl, ol, none⟩) n c) xs, bx gr 62 #[.int .i64 0, .int .i64 0, .int .i64 0, .int .u64 0, .int .u64 0, .bool false], bx W2.heap.size 62 #[.int .i64 0, .int .i64 0, .int .i64 0, .int .u64 0, .int .u64 0, .bool false]]) (W2.alloc (.cells #[.int .i64 0, .int .i64 0, .int .i64 0, .int .u64 0, .int .u64 0, .bool false] 62))) := Lib.hid (L2.out.newR 62 #[.int .i64 0, .int .i64 0, .int .i64 0, .int .u64 0, .int .u64 0, .bool false])
    have hs0 : (fun W : World => W.cell? ⟨g, 0, none⟩ = some (.slice (some ⟨gl, ol, none⟩) n c) ∧ W.cell? ⟨g, 2, none⟩ = some (.int .i64 k) ∧ W.cell? ⟨gl, ol + k, none⟩ = some (.int .i64 o)) W2.drew := ⟨L2.out.drew.cR 0 0 rfl rfl, L2.out.drew.cR 0 2 rfl rfl, L2.out.drew.rR 1 rfl k hxo⟩
    have hs1 : (fun W : World => W.cell? ⟨g, 0, none⟩ = some (.slice (some ⟨gl, ol, none⟩) n c) ∧ W.cell? ⟨g, 2, none⟩ = some (.int .i64 k) ∧ W.cell? ⟨gl, ol + k, none⟩ = some (.int .i64 o)) (W2.alloc (.cells #[.int .i64 0, .int .i64 0, .int .i64 0, .int .u64 0, .int .u64 0, .bool false] 62)).drew := ⟨Lz.out.drew.cR 0 0 rfl rfl, Lz.out.drew.cR 0 2 rfl rfl, Lz.out.drew.rR 1 rfl k hxo⟩
    have hc := ro_load L2.out.drew 2 (by decide) o hl x hx
    have hc2 := ro_load Lz.out.drew 2 (by decide) o hl x hx
    have hka : ∀ W', Lo w0 lo hi b rb q A B (X ++ [bx g TQc #[.slice (some ⟨gl, ol, none⟩) n c, .int .i64 rv, .int .i64 k, .bool false], rd .i64 (.slice (some ⟨gl, ol, none⟩) n c) xs, bx gr 62 #[.int .i64 0, .int .i64 0, .int .i64 0, .int .u64 0, .int .u64 0, .bool false]]) W' → ((fun W : World => W.cell? ⟨g, 0, none⟩ = some (.slice (some ⟨gl, ol, none⟩) n c) ∧ W.cell? ⟨g, 2, none⟩ = some (.int .i64 k) ∧ W.cell? ⟨gl, ol + k, none⟩ = some (.int .i64 o)) W' ∧ (fun W : World => W.cell? ⟨g, 0, none⟩ = some (.slice (some ⟨gl, ol, none⟩) n c) ∧ W.cell? ⟨g, 2, none⟩ = some (.int .i64 k) ∧ W.cell? ⟨gl, ol + k, none⟩ = some (.int .i64 o)) (W'.alloc (.cells #[.int .i64 0, .int .i64 0, .int .i64 0, .int .u64 0, .int .u64 0, .bool false] 62)) ∧ (fun W : World => W.cell? ⟨g, 0, none⟩ = some (.slice (some ⟨gl, ol, none⟩) n c) ∧ W.cell? ⟨g, 2, none⟩ = some (.int .i64 k) ∧ W.cell? ⟨gl, ol + k, none⟩ = some (.int .i64 o)) (W'.alloc (.cells #[.int .i64 1, .int .i64 2, .int .i64 o, .int .u64 x, .int .u64 x, .bool true] 62))) := fun W' h => ⟨⟨h.cR 0 0 rfl rfl, h.cR 0 2 rfl rfl, h.rR 1 rfl k hxo⟩, ⟨(h.newR 62 #[.int .i64 0, .int .i64 0, .int .i64 0, .int .u64 0, .int .u64 0, .bool false]).cR 0 0 rfl rfl, (h.newR 62 #[.int .i64 0, .int .i64 0, .int .i64 0, .int .u64 0, .int .u64 0, .bool false]).cR 0 2 rfl rfl, (h.newR 62 #[.int .i64 0, .int .i64 0, .int .i64 0, .int .u64 0, .int .u64 0, .bool false]).rR 1 rfl k hxo⟩, ⟨(h.newR 62 #[.int .i64 1, .int .i64 2, .int .i64 o, .int .u64 x, .int .u64 x, .bool true]).cR 0 0 rfl rfl, (h.newR 62 #[.int .i64 1, .int .i64 2, .int .i64 o, .int .u64 x, .int .u64 x, .bool true]).cR 0 2 rfl rfl, (h.newR 62 #[.int .i64 1, .int .i64 2, .int .i64 o, .int .u64 x, .int .u64 x, .bool true]).rR 1 rfl k hxo⟩⟩
    have hkb : ∀ W', Lo w0 lo hi b rb q A B (X ++ [bx g TQc #[.slice (some ⟨gl, ol, none⟩) n c, .int .i64 rv, .int .i64 k, .bool false], rd .i64 (.slice (some ⟨gl, ol, none⟩) n c) xs, bx gr 62 #[.int .i64 0, .int .i64 0, .int .i64 0, .int .u64 0, .int .u64 0, .bool false], bx W2.heap.size 62 #[.int .i64 0, .int .i64 0, .int .i64 0, .int .u64 0, .int .u64 0, .bool false]]) W' → ((fun W : World => W.cell? ⟨g, 0, none⟩ = some (.slice (some ⟨gl, ol, none⟩) n c) ∧ W.cell? ⟨g, 2, none⟩ = some (.int .i64 k) ∧ W.cell? ⟨gl, ol + k, none⟩ = some (.int .i64 o)) W' ∧ (fun W : World => W.cell? ⟨g, 0, none⟩ = some (.slice (some ⟨gl, ol, none⟩) n c) ∧ W.cell? ⟨g, 2, none⟩ = some (.int .i64 k) ∧ W.cell? ⟨gl, ol + k, none⟩ = some (.int .i64 o)) (((((((W'.setCell ⟨W2.heap.size, 0, none⟩ (.int .i64 1)).setCell ⟨W2.heap.size, 1, none⟩ (.int .i64 2)).setCell ⟨W2.heap.size, 2, none⟩ (.int .i64 o)).setCell ⟨W2.heap.size, 3, none⟩ (.int .u64 x)).setCell ⟨W2.heap.size, 4, none⟩ (.int .u64 x)).setCell ⟨W2.heap.size, 5, none⟩ (.bool true))) ∧ Mem W' W2.heap.size 62 #[.int .i64 0, .int .i64 0, .int .i64 0, .int .u64 0, .int .u64 0, .bool false]) := fun W' h => ⟨⟨h.cR 0 0 rfl rfl, h.cR 0 2 rfl rfl, h.rR 1 rfl k hxo⟩, ⟨(h.sixR 3 rfl (.int .i64 1) (.int .i64 2) (.int .i64 o) (.int .u64 x) (.int .u64 x) (.bool true)).cR 0 0 rfl rfl, (h.sixR 3 rfl (.int .i64 1) (.int .i64 2) (.int .i64 o) (.int .u64 x) (.int .u64 x) (.bool true)).cR 0 2 rfl rfl, (h.sixR 3 rfl (.int .i64 1) (.int .i64 2) (.int .i64 o) (.int .u64 x) (.int .u64 x) (.bool true)).rR 1 rfl k hxo⟩, h.memR 3 rfl⟩
    clear Lz
    go_region_held3 (fun W : World => W.cell? ⟨g, 0, none⟩ = some (.slice (some ⟨gl, ol, none⟩) n c) ∧ W.cell? ⟨g, 2, none⟩ = some (.int .i64 k) ∧ W.cell? ⟨gl, ol + k, none⟩ = some (.int .i64 o)) (first | (with_reducible exact hs0) | (with_reducible exact hs1) | (with_reducible assumption)) (first | (go_at_call 49; (with_reducible refine hc.mono ?_); rintro e w2' ⟨rfl, hL⟩; obtain ⟨hk1, hk2, hk3⟩ := hka _ hL) | (go_at_call 49; (with_reducible refine hc2.mono ?_); rintro e w2' ⟨rfl, hL⟩; obtain ⟨hk1, hk2, hk3⟩ := hkb _ hL; have d0 := hk3.cell 0; have d1 := hk3.cell 1; have d2 := hk3.cell 2; have d3 := hk3.cell 3; have d4 := hk3.cell 4; have d5 := hk3.cell 5; have df := hk3.frozen))
    all_goals go_wp2_with fail
    all_goals go_meet
    all_goals first
      | exact ⟨_, rfl, Lib.hid (hL.newR 62 #[.int .i64 1, .int .i64 2, .int .i64 o, .int .u64 x, .int .u64 x, .bool true])⟩
      | exact ⟨_, rfl, Lib.hid (hL.sixR 3 rfl (.int .i64 1) (.int .i64 2) (.int .i64 o) (.int .u64 x) (.int .u64 x) (.bool true))⟩
  case rest =>
    clear L2 c2_0_0 c2_0_2 ro
    obtain ⟨ga, rfl, L3⟩ := hcut
    have c3_0_2 : wc.cell? ⟨g, 2, none⟩ = some (.int .i64 k) := L3.out.cR 0 2 rfl rfl
    have z3_0_2 : wc.frozen? ⟨g, 2, none⟩ = false := L3.out.zR 0 2 rfl
    go_upto_region 4 with (fail)
    go_upto_region 5 with (fail)
    have L4 : Hid (Lo w0 lo hi b rb q A B (X ++ [bx g TQc #[.slice (some ⟨gl, ol, none⟩) n c, .int .i64 rv, .int .i64 ((k : Int) + 1), .bool false], rd .i64 (.slice (some ⟨gl, ol, none⟩) n c) xs, bx gr 62 #[.int .i64 0, .int .i64 0, .int .i64 0, .int .u64 0, .int .u64 0, .bool false], bx ga 62 #[.int .i64 1, .int .i64 2, .int .i64 o, .int .u64 x, .int .u64 x, .bool true]]) (wc.setCell ⟨g, 2, none⟩ (.int .i64 ((k : Int) + 1)))) := Lib.hid (L3.out.putR 0 2 (.int .i64 ((k : Int) + 1)) rfl (by rfl))
    obtain ⟨W4, hW⟩ : ∃ W', wc.setCell ⟨g, 2, none⟩ (.int .i64 ((k : Int) + 1)) = W' := ⟨_, rfl⟩
    rw [hW] at L4
    first | rw [hW] | skip
    clear hW
    clear L3 c3_0_2 z3_0_2
    have hve := same_of (r_version x x0 x1)
    simp only [hv] at hve
    have d0 : W4.drew.cell? ⟨ga, 3, none⟩ = some (.int .u64 x) := L4.out.drew.cR 3 3 rfl rfl
    have d1 : W4.drew.cell? ⟨g, 1, none⟩ = some (.int .i64 rv) := L4.out.drew.cR 0 1 rfl rfl
    have d2 : W4.drew.cell? ⟨g, 3, none⟩ = some (.bool false) := L4.out.drew.cR 0 3 rfl rfl
    have d3 : W4.drew.frozen? ⟨g, 3, none⟩ = false := L4.out.drew.zR 0 3 rfl
    have hs0 : (fun W : World => W.cell? ⟨ga, 3, none⟩ = some (.int .u64 x) ∧ W.cell? ⟨g, 1, none⟩ = some (.int .i64 rv)) W4.drew := ⟨d0, d1⟩
    have hs1 : (fun W : World => W.cell? ⟨ga, 3, none⟩ = some (.int .u64 x) ∧ W.cell? ⟨g, 1, none⟩ = some (.int .i64 rv)) (W4.setCell ⟨g, 3, none⟩ (.bool F)).drew := ⟨(L4.out.putR 0 3 (.bool F) rfl (by rfl)).drew.cR 3 3 rfl rfl, (L4.out.putR 0 3 (.bool F) rfl (by rfl)).drew.cR 0 1 rfl rfl⟩
    go_region_held3 (fun W : World => W.cell? ⟨ga, 3, none⟩ = some (.int .u64 x) ∧ W.cell? ⟨g, 1, none⟩ = some (.int .i64 rv)) (first | (with_reducible exact hs0) | (with_reducible exact hs1) | (with_reducible assumption)) (first | (go_at_call 41; (with_reducible refine (hve _).mono ?_); rintro e w9 ⟨rfl, rfl⟩))
    clear hs0 hs1 hve d0 d1 d2 d3
    have L5 : Hid (Lo w0 lo hi b rb q A B (X ++ [bx g TQc #[.slice (some ⟨gl, ol, none⟩) n c, .int .i64 rv, .int .i64 ((k : Int) + 1), .bool F], rd .i64 (.slice (some ⟨gl, ol, none⟩) n c) xs, bx gr 62 #[.int .i64 0, .int .i64 0, .int .i64 0, .int .u64 0, .int .u64 0, .bool false], bx ga 62 #[.int .i64 1, .int .i64 2, .int .i64 o, .int .u64 x, .int .u64 x, .bool true]]) ((W4.setCell ⟨g, 3, none⟩ (.bool F)).drew)) := Lib.hid ((L4.out.putR 0 3 (.bool F) rfl (by rfl)).drew)
    obtain ⟨W5, hW⟩ : ∃ W', (W4.setCell ⟨g, 3, none⟩ (.bool F)).drew = W' := ⟨_, rfl⟩
    rw [hW] at L5
    first | rw [hW] | skip
    clear hW
    clear L4
    have c5_2_0 : W5.cell? ⟨gr, 0, none⟩ = some (.int .i64 0) := L5.out.cR 2 0 rfl rfl
    have z5_2_0 : W5.frozen? ⟨gr, 0, none⟩ = false := L5.out.zR 2 0 rfl
    have c5_3_0 : W5.cell? ⟨ga, 0, none⟩ = some (.int .i64 1) := L5.out.cR 3 0 rfl rfl
    have c5_2_1 : W5.cell? ⟨gr, 1, none⟩ = some (.int .i64 0) := L5.out.cR 2 1 rfl rfl
    have z5_2_1 : W5.frozen? ⟨gr, 1, none⟩ = false := L5.out.zR 2 1 rfl
    have c5_3_1 : W5.cell? ⟨ga, 1, none⟩ = some (.int .i64 2) := L5.out.cR 3 1 rfl rfl
    have c5_2_2 : W5.cell? ⟨gr, 2, none⟩ = some (.int .i64 0) := L5.out.cR 2 2 rfl rfl
    have z5_2_2 : W5.frozen? ⟨gr, 2, none⟩ = false := L5.out.zR 2 2 rfl
    have c5_3_2 : W5.cell? ⟨ga, 2, none⟩ = some (.int .i64 o) := L5.out.cR 3 2 rfl rfl
    have c5_2_3 : W5.cell? ⟨gr, 3, none⟩ = some (.int .u64 0) := L5.out.cR 2 3 rfl rfl
    have z5_2_3 : W5.frozen? ⟨gr, 3, none⟩ = false := L5.out.zR 2 3 rfl
    have c5_3_3 : W5.cell? ⟨ga, 3, none⟩ = some (.int .u64 x) := L5.out.cR 3 3 rfl rfl
    have c5_2_4 : W5.cell? ⟨gr, 4, none⟩ = some (.int .u64 0) := L5.out.cR 2 4 rfl rfl
    have z5_2_4 : W5.frozen? ⟨gr, 4, none⟩ = false := L5.out.zR 2 4 rfl
    have c5_3_4 : W5.cell? ⟨ga, 4, none⟩ = some (.int .u64 x) := L5.out.cR 3 4 rfl rfl
    have c5_2_5 : W5.cell? ⟨gr, 5, none⟩ = some (.bool false) := L5.out.cR 2 5 rfl rfl
    have z5_2_5 : W5.frozen? ⟨gr, 5, none⟩ = false := L5.out.zR 2 5 rfl
    have c5_3_5 : W5.cell? ⟨ga, 5, none⟩ = some (.bool true) := L5.out.cR 3 5 rfl rfl
    go_wp2
    have L6 : Hid (Lo w0 lo hi b rb q A B (X ++ [bx g TQc #[.slice (some ⟨gl, ol, none⟩) n c, .int .i64 rv, .int .i64 ((k : Int) + 1), .bool F], rd .i64 (.slice (some ⟨gl, ol, none⟩) n c) xs, bx gr 62 #[.int .i64 1, .int .i64 2, .int .i64 o, .int .u64 x, .int .u64 x, .bool true], bx ga 62 #[.int .i64 1, .int .i64 2, .int .i64 o, .int .u64 x, .int .u64 x, .bool true]]) (((((((W5.setCell ⟨gr, 0, none⟩ (.int .i64 1)).setCell ⟨gr, 1, none⟩ (.int .i64 2)).setCell ⟨gr, 2, none⟩ (.int .i64 o)).setCell ⟨gr, 3, none⟩ (.int .u64 x)).setCell ⟨gr, 4, none⟩ (.int .u64 x)).setCell ⟨gr, 5, none⟩ (.bool true)))) := Lib.hid (L5.out.sixR 2 rfl (.int .i64 1) (.int .i64 2) (.int .i64 o) (.int .u64 x) (.int .u64 x) (.bool true))
    obtain ⟨V, hV⟩ : ∃ V, ((((((W5.setCell ⟨gr, 0, none⟩ (.int .i64 1)).setCell ⟨gr, 1, none⟩ (.int .i64 2)).setCell ⟨gr, 2, none⟩ (.int .i64 o)).setCell ⟨gr, 3, none⟩ (.int .u64 x)).setCell ⟨gr, 4, none⟩ (.int .u64 x)).setCell ⟨gr, 5, none⟩ (.bool true)) = V := ⟨_, rfl⟩
    rw [hV] at L6 ⊢
    clear hV
    have hF : Lo w0 lo hi b rb q A B (X ++ [bx g TQc #[.slice (some ⟨gl, ol, none⟩) n c, .int .i64 rv, .int .i64 ((k : Int) + 1), .bool F], rd .i64 (.slice (some ⟨gl, ol, none⟩) n c) xs]) V := Lo.dropR (rs2 := [bx gr 62 #[.int .i64 1, .int .i64 2, .int .i64 o, .int .u64 x, .int .u64 x, .bool true], bx ga 62 #[.int .i64 1, .int .i64 2, .int .i64 o, .int .u64 x, .int .u64 x, .bool true]]) L6.out
    refine bodyPost_ret (v := .agg #[.int .i64 1, .int .i64 2, .int .i64 o, .int .u64 x, .int .u64 x, .bool true]) (results_cell_row rfl _ _ gr 62 #[.int .i64 1, .int .i64 2, .int .i64 o, .int .u64 x, .int .u64 x, .bool true] (0, 0) _ (by simp) (L6.out.memR 2 rfl) Try.underlying62 rfl (by kernel_rfl)) rfl ?_
    exact ⟨rfl, hF⟩

end Go.Proofs.Ytdegclfbnldgaaa.VaA
