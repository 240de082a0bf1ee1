/-
  Contract of the statements' own sanity check of layer 10: awake.
-/
import Derived.Test.YtpdmmblcjidekaaTurB
namespace Go.Proofs.Ytpdmmblcjidekaa.TurL
open Go.ChangeShapes Go.WideShapes Go.ChangeAt Go.RowKit
open PlainT BlkW LayS LayA CelS CelM CelP CelV CelN CelO CelI CelY CelF LabD LabR LabP LabS TurA TurB
set_option linter.unusedVariables false
set_option maxHeartbeats 2000000
set_option maxRecDepth 100000

theorem l_awake (w : World) : Calls Try.prog 51 #[] w fun e w' => e = .returned (.bool true) ∧ Below w.heap.size w w' := by
  go_enter Try.func51, Try.ntmps51
  go_upto_region 2 with (go_at_call 28; refine (l_small _ _ _ _ _ _).mono ?_; rintro e w1 ⟨q, A, lo, hi, b, rb, rfl, hst⟩)
  have S0 := Lib.hid (ct_begun hst)
  have hlo := S0.out.lo
  have hle := S0.out.le
  clear hst
  have X1_gp := Lib.hid (Mem.new w1 TP #[.pointer (some ⟨b, 0, none⟩), .pointer (some ⟨rb, 0, none⟩)])
  have S1 := Lib.hid (S0.out.alloc (.cells #[.pointer (some ⟨b, 0, none⟩), .pointer (some ⟨rb, 0, none⟩)] TP))
  have hgp_top := S0.out.top
  obtain ⟨gp, hn⟩ : ∃ gp, w1.heap.size = gp := ⟨_, rfl⟩
  have Z_gp : Hid ((w1.alloc (.cells #[.pointer (some ⟨b, 0, none⟩), .pointer (some ⟨rb, 0, none⟩)] TP)).heap.size = gp + 1) := Lib.hid (by rw [size_new, hn])
  rw [hn] at X1_gp hgp_top 
  first | rw [hn] | skip
  clear hn 
  obtain ⟨W1, hW⟩ : ∃ W', w1.alloc (.cells #[.pointer (some ⟨b, 0, none⟩), .pointer (some ⟨rb, 0, none⟩)] TP) = W' := ⟨_, rfl⟩
  rw [hW] at X1_gp S1 Z_gp
  first | rw [hW] | skip
  clear hW
  clear S0
  have c1_gp_0 := Mem.cell X1_gp.out 0
  have c1_gp_1 := Mem.cell X1_gp.out 1
  simp at c1_gp_0 c1_gp_1
  go_upto_region 3 with (go_at_call 52; refine (t_new _).mono ?_; rintro e w3' ⟨rfl, rfl⟩)
  have X2_gp := Lib.hid (X1_gp.out.alloc (.cells #[.int .i64 0, .int .i64 (-1)] 138))
  have hge_gp : gp < W1.heap.size := X1_gp.out.lt
  have X2_ge := Lib.hid (Mem.new W1 138 #[.int .i64 0, .int .i64 (-1)])
  have S2 := Lib.hid (S1.out.alloc (.cells #[.int .i64 0, .int .i64 (-1)] 138))
  have hge_top := S1.out.top
  obtain ⟨ge, hn⟩ : ∃ ge, W1.heap.size = ge := ⟨_, rfl⟩
  have Z_ge : Hid ((W1.alloc (.cells #[.int .i64 0, .int .i64 (-1)] 138)).heap.size = ge + 1) := Lib.hid (by rw [size_new, hn])
  rw [hn] at X2_ge hge_top hge_gp
  first | rw [hn] | skip
  clear hn c1_gp_0 c1_gp_1
  obtain ⟨W2, hW⟩ : ∃ W', W1.alloc (.cells #[.int .i64 0, .int .i64 (-1)] 138) = W' := ⟨_, rfl⟩
  rw [hW] at X2_gp X2_ge S2 Z_ge
  first | rw [hW] | skip
  clear hW
  clear X1_gp S1
  have c2_gp_0 := Mem.cell X2_gp.out 0
  have c2_gp_1 := Mem.cell X2_gp.out 1
  have c2_ge_0 := Mem.cell X2_ge.out 0
  have c2_ge_1 := Mem.cell X2_ge.out 1
  simp at c2_gp_0 c2_gp_1 c2_ge_0 c2_ge_1
  have X3_gp := Lib.hid (X2_gp.out.alloc (.cells #[.int .i64 0, .int .i64 (-1)] 138))
  have X3_ge := Lib.hid (X2_ge.out.alloc (.cells #[.int .i64 0, .int .i64 (-1)] 138))
  have hgf_gp : gp < W2.heap.size := X2_gp.out.lt
  have hgf_ge : ge < W2.heap.size := X2_ge.out.lt
  have X3_gf := Lib.hid (Mem.new W2 138 #[.int .i64 0, .int .i64 (-1)])
  have S3 := Lib.hid (S2.out.alloc (.cells #[.int .i64 0, .int .i64 (-1)] 138))
  have hgf_top := S2.out.top
  obtain ⟨gf, hn⟩ : ∃ gf, W2.heap.size = gf := ⟨_, rfl⟩
  have Z_gf : Hid ((W2.alloc (.cells #[.int .i64 0, .int .i64 (-1)] 138)).heap.size = gf + 1) := Lib.hid (by rw [size_new, hn])
  first | rw [← Z_ge.out] | skip
  rw [hn] at X3_gf hgf_top hgf_gp hgf_ge
  first | rw [hn] | skip
  clear hn c2_gp_0 c2_gp_1 c2_ge_0 c2_ge_1
  obtain ⟨W3, hW⟩ : ∃ W', W2.alloc (.cells #[.int .i64 0, .int .i64 (-1)] 138) = W' := ⟨_, rfl⟩
  rw [hW] at X3_gp X3_ge X3_gf S3 Z_gf
  first | rw [hW] | skip
  clear hW
  clear X2_gp X2_ge S2
  have c3_gp_0 := Mem.cell X3_gp.out 0
  have c3_gp_1 := Mem.cell X3_gp.out 1
  have c3_ge_0 := Mem.cell X3_ge.out 0
  have c3_ge_1 := Mem.cell X3_ge.out 1
  have c3_gf_0 := Mem.cell X3_gf.out 0
  have c3_gf_1 := Mem.cell X3_gf.out 1
  simp at c3_gp_0 c3_gp_1 c3_ge_0 c3_ge_1 c3_gf_0 c3_gf_1
  have hc := c_s0 S3.out (.inr (by omega)) (by omega) (-1) (by decide) (by decide) X3_ge.out
  go_upto_region 6 with (go_at_call 58; refine hc.mono ?_; rintro e w3' ⟨rfl, hS, hM, hF⟩)
  have X4_gp := Lib.hid (mem_fr X3_gp.out hF (by unfold PG; omega))
  have X4_gf := Lib.hid (mem_fr X3_gf.out hF (by unfold PG; omega))
  have X4_ge : Hid (Mem w3' ge 138 #[.int .i64 1, .int .i64 0]) := Lib.hid hM
  have S4 := Lib.hid hS
  clear hc hF hS hM c3_gp_0 c3_gp_1 c3_ge_0 c3_ge_1 c3_gf_0 c3_gf_1 X3_gp X3_ge X3_gf S3
  have c4_gp_0 := Mem.cell X4_gp.out 0
  have c4_gp_1 := Mem.cell X4_gp.out 1
  have c4_ge_0 := Mem.cell X4_ge.out 0
  have c4_ge_1 := Mem.cell X4_ge.out 1
  have c4_gf_0 := Mem.cell X4_gf.out 0
  have c4_gf_1 := Mem.cell X4_gf.out 1
  simp at c4_gp_0 c4_gp_1 c4_ge_0 c4_ge_1 c4_gf_0 c4_gf_1
  have hc := c_s0 S4.out (.inr (by omega)) (by omega) (-1) (by decide) (by decide) X4_gf.out
  go_upto_region 7 with (go_at_call 58; refine hc.mono ?_; rintro e w4' ⟨rfl, hS, hM, hF⟩)
  have X5_gp := Lib.hid (mem_fr X4_gp.out hF (by unfold PG; omega))
  have X5_ge := Lib.hid (mem_fr X4_ge.out hF (by unfold PG; omega))
  have X5_gf : Hid (Mem w4' gf 138 #[.int .i64 1, .int .i64 1]) := Lib.hid hM
  have S5 := Lib.hid hS
  clear hc hF hS hM c4_gp_0 c4_gp_1 c4_ge_0 c4_ge_1 c4_gf_0 c4_gf_1 X4_gp X4_ge X4_gf S4
  have c5_gp_0 := Mem.cell X5_gp.out 0
  have c5_gp_1 := Mem.cell X5_gp.out 1
  have c5_ge_0 := Mem.cell X5_ge.out 0
  have c5_ge_1 := Mem.cell X5_ge.out 1
  have c5_gf_0 := Mem.cell X5_gf.out 0
  have c5_gf_1 := Mem.cell X5_gf.out 1
  simp at c5_gp_0 c5_gp_1 c5_ge_0 c5_ge_1 c5_gf_0 c5_gf_1
  have hc := c_s1_yes S5.out (.inr (by omega)) (by omega) 0 (by decide) (by decide) (by decide) X5_ge.out
  go_upto_region 8 with (go_at_call 58; refine hc.mono ?_; rintro e w5' ⟨rfl, hS, hM, hF⟩)
  have X6_gp := Lib.hid (mem_fr X5_gp.out hF (by unfold PG; omega))
  have X6_gf := Lib.hid (mem_fr X5_gf.out hF (by unfold PG; omega))
  have X6_ge : Hid (Mem w5' ge 138 #[.int .i64 2, .int .i64 0]) := Lib.hid hM
  have S6 := Lib.hid hS
  clear hc hF hS hM c5_gp_0 c5_gp_1 c5_ge_0 c5_ge_1 c5_gf_0 c5_gf_1 X5_gp X5_ge X5_gf S5
  have c6_gp_0 := Mem.cell X6_gp.out 0
  have c6_gp_1 := Mem.cell X6_gp.out 1
  have c6_ge_0 := Mem.cell X6_ge.out 0
  have c6_ge_1 := Mem.cell X6_ge.out 1
  have c6_gf_0 := Mem.cell X6_gf.out 0
  have c6_gf_1 := Mem.cell X6_gf.out 1
  simp at c6_gp_0 c6_gp_1 c6_ge_0 c6_ge_1 c6_gf_0 c6_gf_1
  have hc := c_s1_no S6.out (.inr (by omega)) (by omega) 1 (by decide) (by decide) (by decide) X6_gf.out
  go_upto_region 9 with (go_at_call 58; refine hc.mono ?_; rintro e w6' ⟨rfl, hS, hM, hF⟩)
  have X7_gp := Lib.hid (mem_fr X6_gp.out hF (by unfold PG; omega))
  have X7_ge := Lib.hid (mem_fr X6_ge.out hF (by unfold PG; omega))
  have X7_gf : Hid (Mem w6' gf 138 #[.int .i64 1, .int .i64 1]) := Lib.hid hM
  have S7 := Lib.hid hS
  clear hc hF hS hM c6_gp_0 c6_gp_1 c6_ge_0 c6_ge_1 c6_gf_0 c6_gf_1 X6_gp X6_ge X6_gf S6
  have c7_gp_0 := Mem.cell X7_gp.out 0
  have c7_gp_1 := Mem.cell X7_gp.out 1
  have c7_ge_0 := Mem.cell X7_ge.out 0
  have c7_ge_1 := Mem.cell X7_ge.out 1
  have c7_gf_0 := Mem.cell X7_gf.out 0
  have c7_gf_1 := Mem.cell X7_gf.out 1
  simp at c7_gp_0 c7_gp_1 c7_ge_0 c7_ge_1 c7_gf_0 c7_gf_1
  go_upto_region 10 with (first | (go_at_call 54; refine (t_done ge 2 0 _ X7_ge.out).mono ?_; rintro e w9 ⟨rfl, rfl⟩) | (go_at_call 54; refine (t_done gf 1 1 _ X7_gf.out).mono ?_; rintro e w9 ⟨rfl, rfl⟩))
  have hpa : ∀ W, Ct w lo hi b rb q 2 0 W → Calls Try.prog 56 #[.pointer (some ⟨b, 0, none⟩), .int .i64 0] W fun e w' => e = .returned (accV 2 5 0 0 1 true) ∧ Ct w lo hi b rb q 2 1 w' ∧ Stay lo hi W w' := fun W hw => c_pass hw 0 (by decide) (by decide)
  have Y_gp := Lib.hid (X7_gp.out.drewN 1)
  have Y_ge := Lib.hid (X7_ge.out.drewN 1)
  have Y_gf := Lib.hid (X7_gf.out.drewN 1)
  have Y_S := Lib.hid (S7.out.drewN 1)
  have htn := t_ticket ge 2 0 w6'.drew Y_ge.out
  have hpb := hpa w6'.drew Y_S.out
  have hq0 : w6'.drew.cell? ⟨gp, 0, none⟩ = some (.pointer (some ⟨b, 0, none⟩)) := Mem.cell Y_gp.out 0
  go_region_held3 (fun W => W.cell? ⟨gp, 0, none⟩ = some (.pointer (some ⟨b, 0, none⟩))) (first | exact hq0 | assumption) (first | (go_at_call 55; (with_reducible refine htn.mono ?_); rintro e w9 ⟨rfl, rfl⟩) | (go_at_call 56; (with_reducible refine hpb.mono ?_); rintro e w10 ⟨rfl, hS, hT⟩; have hF := Fr.of_stay (P := PI lo hi) hT (fun x a c => ⟨a, c⟩); have hq1 : w10.cell? ⟨gp, 0, none⟩ = some (.pointer (some ⟨b, 0, none⟩)) := Mem.cell (mem_fr Y_gp.out hF (by unfold PI; omega)) 0))
  have X8_gp := Lib.hid (mem_fr Y_gp.out hF (by unfold PI; omega))
  have X8_ge := Lib.hid (mem_fr Y_ge.out hF (by unfold PI; omega))
  have X8_gf := Lib.hid (mem_fr Y_gf.out hF (by unfold PI; omega))
  have S8 := Lib.hid hS
  clear hpa hF hS hT hq0 htn hpb c7_gp_0 c7_gp_1 c7_ge_0 c7_ge_1 c7_gf_0 c7_gf_1 X7_gp X7_ge X7_gf S7 Y_gp Y_ge Y_gf Y_S
  have c8_gp_0 := Mem.cell X8_gp.out 0
  have c8_gp_1 := Mem.cell X8_gp.out 1
  have c8_ge_0 := Mem.cell X8_ge.out 0
  have c8_ge_1 := Mem.cell X8_ge.out 1
  have c8_gf_0 := Mem.cell X8_gf.out 0
  have c8_gf_1 := Mem.cell X8_gf.out 1
  simp at c8_gp_0 c8_gp_1 c8_ge_0 c8_ge_1 c8_gf_0 c8_gf_1
  have hc := c_s1_yes S8.out (.inr (by omega)) (by omega) 1 (by decide) (by decide) (by decide) X8_gf.out
  go_wp2_with (first
    | (go_at_call 58; refine hc.mono ?_; rintro e w11 ⟨rfl, hS, hM, hF⟩; have HM := Lib.hid hM; have HS := Lib.hid hS; clear hM hS hF)
    | (go_at_call 54; refine (t_done gf 2 1 _ HM.out).mono ?_; rintro e w12 ⟨rfl, rfl⟩)
    | (go_at_call 55; refine (t_ticket gf 2 1 _ HM.out).mono ?_; rintro e w13 ⟨rfl, rfl⟩))
  have HB := Lib.hid HS.out.old
  go_ret
  exact ⟨rfl, HB.out⟩
end Go.Proofs.Ytpdmmblcjidekaa.TurL
