/-
  Contract of the statements' own sanity check of layer 9: awake.
-/
import Derived.Test.YthgbfghhiadjpaaEpoS
namespace Go.Proofs.Ythgbfghhiadjpaa.EpoL
open Go.ChangeShapes Go.WideShapes Go.ChangeAt Go.RowKit
open PlainT BlkW LayS LayA CelS CelM CelP CelV CelN CelO CelI CelY CelF LabD LabR LabP LabS EpoA EpoF EpoS
set_option linter.unusedVariables false
set_option maxHeartbeats 2000000
set_option maxRecDepth 100000

theorem img5 (d o l h n : Value) (c t s : Int) (w : World) : (Instr.field 44 (imgV d o c t s l h n) 5).run Try.prog w = .ok l w := by kernel_rfl
theorem l_awake (w : World) : Calls Try.prog 46 #[] w fun e w' => e = .returned (.bool true) ∧ Below w.heap.size w w' := by
  go_enter Try.func46, Try.ntmps46
  go_upto_region 2 with (go_at_call 34; refine (l_small _ _ _ _ _ _).mono ?_; rintro e w1 ⟨q, A, lo, hi, b, rb, rfl, hst⟩)
  have S0 := Lib.hid (sl_begun hst)
  have hlo := S0.out.lo
  have hle := S0.out.le
  clear hst
  have X1_gp := Lib.hid (Mem.new w1 TP #[.pointer (some ⟨b, 0, none⟩), .pointer (some ⟨rb, 0, none⟩)])
  have S1 := Lib.hid (S0.out.alloc (.cells #[.pointer (some ⟨b, 0, none⟩), .pointer (some ⟨rb, 0, none⟩)] TP))
  have hgp_top := S0.out.top
  obtain ⟨gp, hn⟩ : ∃ gp, w1.heap.size = gp := ⟨_, rfl⟩
  have Z_gp : Hid ((w1.alloc (.cells #[.pointer (some ⟨b, 0, none⟩), .pointer (some ⟨rb, 0, none⟩)] TP)).heap.size = gp + 1) := Lib.hid (by rw [size_new, hn])
  rw [hn] at X1_gp hgp_top 
  first | rw [hn] | skip
  clear hn 
  obtain ⟨W1, hW⟩ : ∃ W', w1.alloc (.cells #[.pointer (some ⟨b, 0, none⟩), .pointer (some ⟨rb, 0, none⟩)] TP) = W' := ⟨_, rfl⟩
  rw [hW] at X1_gp S1 Z_gp
  first | rw [hW] | skip
  clear hW
  clear S0
  have c1_gp_0 := Mem.cell X1_gp.out 0
  have c1_gp_1 := Mem.cell X1_gp.out 1
  simp at c1_gp_0 c1_gp_1
  have hc := l_clock S1.out 5
  go_upto_region 4 with (go_at_call 35; refine hc.mono ?_; rintro e w1' ⟨rfl, hS, hT⟩; have hF := Fr.of_stay (P := PI lo hi) hT (fun x a c => ⟨a, c⟩); clear hT)
  have X2_gp := Lib.hid (mem_fr X1_gp.out hF (by unfold PI; omega))
  have S2 := Lib.hid hS
  clear hc hF hS c1_gp_0 c1_gp_1 X1_gp S1
  have c2_gp_0 := Mem.cell X2_gp.out 0
  have c2_gp_1 := Mem.cell X2_gp.out 1
  simp at c2_gp_0 c2_gp_1
  go_upto_region 5 with (first | (go_at_call 36; refine (e_new _ _).mono ?_; rintro e w3' ⟨rfl, rfl⟩) | (go_at_call 48; refine (f_new _ _ _).mono ?_; rintro e w4' ⟨rfl, rfl⟩))
  have X3_gp := Lib.hid (X2_gp.out.alloc (.cells #[.int .i64 0, .int .i64 1, .int .i64 (-1)] 123))
  have hge_gp : gp < w1'.heap.size := X2_gp.out.lt
  have X3_ge := Lib.hid (Mem.new w1' 123 #[.int .i64 0, .int .i64 1, .int .i64 (-1)])
  have S3 := Lib.hid (S2.out.alloc (.cells #[.int .i64 0, .int .i64 1, .int .i64 (-1)] 123))
  have hge_top := S2.out.top
  obtain ⟨ge, hn⟩ : ∃ ge, w1'.heap.size = ge := ⟨_, rfl⟩
  have Z_ge : Hid ((w1'.alloc (.cells #[.int .i64 0, .int .i64 1, .int .i64 (-1)] 123)).heap.size = ge + 1) := Lib.hid (by rw [size_new, hn])
  rw [hn] at X3_ge hge_top hge_gp
  first | rw [hn] | skip
  clear hn c2_gp_0 c2_gp_1
  obtain ⟨W3, hW⟩ : ∃ W', w1'.alloc (.cells #[.int .i64 0, .int .i64 1, .int .i64 (-1)] 123) = W' := ⟨_, rfl⟩
  rw [hW] at X3_gp X3_ge S3 Z_ge
  first | rw [hW] | skip
  clear hW
  clear X2_gp S2
  have c3_gp_0 := Mem.cell X3_gp.out 0
  have c3_gp_1 := Mem.cell X3_gp.out 1
  have c3_ge_0 := Mem.cell X3_ge.out 0
  have c3_ge_1 := Mem.cell X3_ge.out 1
  have c3_ge_2 := Mem.cell X3_ge.out 2
  simp at c3_gp_0 c3_gp_1 c3_ge_0 c3_ge_1 c3_ge_2
  have X4_gp := Lib.hid (X3_gp.out.alloc (.cells #[.int .i64 0, .int .i64 0, .int .i64 2, .int .i64 0, .int .i64 (-1)] 129))
  have X4_ge := Lib.hid (X3_ge.out.alloc (.cells #[.int .i64 0, .int .i64 0, .int .i64 2, .int .i64 0, .int .i64 (-1)] 129))
  have hgf_gp : gp < W3.heap.size := X3_gp.out.lt
  have hgf_ge : ge < W3.heap.size := X3_ge.out.lt
  have X4_gf := Lib.hid (Mem.new W3 129 #[.int .i64 0, .int .i64 0, .int .i64 2, .int .i64 0, .int .i64 (-1)])
  have S4 := Lib.hid (S3.out.alloc (.cells #[.int .i64 0, .int .i64 0, .int .i64 2, .int .i64 0, .int .i64 (-1)] 129))
  have hgf_top := S3.out.top
  obtain ⟨gf, hn⟩ : ∃ gf, W3.heap.size = gf := ⟨_, rfl⟩
  have Z_gf : Hid ((W3.alloc (.cells #[.int .i64 0, .int .i64 0, .int .i64 2, .int .i64 0, .int .i64 (-1)] 129)).heap.size = gf + 1) := Lib.hid (by rw [size_new, hn])
  first | rw [← Z_ge.out] | skip
  rw [hn] at X4_gf hgf_top hgf_gp hgf_ge
  first | rw [hn] | skip
  clear hn c3_gp_0 c3_gp_1 c3_ge_0 c3_ge_1 c3_ge_2
  obtain ⟨W4, hW⟩ : ∃ W', W3.alloc (.cells #[.int .i64 0, .int .i64 0, .int .i64 2, .int .i64 0, .int .i64 (-1)] 129) = W' := ⟨_, rfl⟩
  rw [hW] at X4_gp X4_ge X4_gf S4 Z_gf
  first | rw [hW] | skip
  clear hW
  clear X3_gp X3_ge S3
  have c4_gp_0 := Mem.cell X4_gp.out 0
  have c4_gp_1 := Mem.cell X4_gp.out 1
  have c4_ge_0 := Mem.cell X4_ge.out 0
  have c4_ge_1 := Mem.cell X4_ge.out 1
  have c4_ge_2 := Mem.cell X4_ge.out 2
  have c4_gf_0 := Mem.cell X4_gf.out 0
  have c4_gf_1 := Mem.cell X4_gf.out 1
  have c4_gf_2 := Mem.cell X4_gf.out 2
  have c4_gf_3 := Mem.cell X4_gf.out 3
  have c4_gf_4 := Mem.cell X4_gf.out 4
  simp at c4_gp_0 c4_gp_1 c4_ge_0 c4_ge_1 c4_ge_2 c4_gf_0 c4_gf_1 c4_gf_2 c4_gf_3 c4_gf_4
  have hc := l_e0 S4.out (.inr (by omega)) (by omega) (-1) 1 (by decide) 0 rfl X4_ge.out
  go_upto_region 8 with (go_at_call 41; refine hc.mono ?_; rintro e w4' ⟨rfl, hS, hM, hF⟩)
  have X5_gp := Lib.hid (mem_fr X4_gp.out hF (by unfold PG; omega))
  have X5_gf := Lib.hid (mem_fr X4_gf.out hF (by unfold PG; omega))
  have X5_ge : Hid (Mem w4' ge 123 #[.int .i64 1, .int .i64 1, .int .i64 (-1)]) := Lib.hid hM
  have S5 := Lib.hid hS
  clear hc hF hS hM c4_gp_0 c4_gp_1 c4_ge_0 c4_ge_1 c4_ge_2 c4_gf_0 c4_gf_1 c4_gf_2 c4_gf_3 c4_gf_4 X4_gp X4_ge X4_gf S4
  have c5_gp_0 := Mem.cell X5_gp.out 0
  have c5_gp_1 := Mem.cell X5_gp.out 1
  have c5_ge_0 := Mem.cell X5_ge.out 0
  have c5_ge_1 := Mem.cell X5_ge.out 1
  have c5_ge_2 := Mem.cell X5_ge.out 2
  have c5_gf_0 := Mem.cell X5_gf.out 0
  have c5_gf_1 := Mem.cell X5_gf.out 1
  have c5_gf_2 := Mem.cell X5_gf.out 2
  have c5_gf_3 := Mem.cell X5_gf.out 3
  have c5_gf_4 := Mem.cell X5_gf.out 4
  simp at c5_gp_0 c5_gp_1 c5_ge_0 c5_ge_1 c5_ge_2 c5_gf_0 c5_gf_1 c5_gf_2 c5_gf_3 c5_gf_4
  have hc := l_f0 S5.out (.inr (by omega)) (by omega) 0 2 (by decide) (by decide) X5_gf.out
  go_upto_region 9 with (go_at_call 53; refine hc.mono ?_; rintro e w5' ⟨rfl, hS, hM, hF⟩; try simp [fsv, skp] at hM)
  have X6_gp := Lib.hid (mem_fr X5_gp.out hF (by unfold PG; omega))
  have X6_ge := Lib.hid (mem_fr X5_ge.out hF (by unfold PG; omega))
  have X6_gf : Hid (Mem w5' gf 129 #[.int .i64 1, .int .i64 0, .int .i64 2, .int .i64 1, .int .i64 5]) := Lib.hid hM
  have S6 := Lib.hid hS
  clear hc hF hS hM c5_gp_0 c5_gp_1 c5_ge_0 c5_ge_1 c5_ge_2 c5_gf_0 c5_gf_1 c5_gf_2 c5_gf_3 c5_gf_4 X5_gp X5_ge X5_gf S5
  have c6_gp_0 := Mem.cell X6_gp.out 0
  have c6_gp_1 := Mem.cell X6_gp.out 1
  have c6_ge_0 := Mem.cell X6_ge.out 0
  have c6_ge_1 := Mem.cell X6_ge.out 1
  have c6_ge_2 := Mem.cell X6_ge.out 2
  have c6_gf_0 := Mem.cell X6_gf.out 0
  have c6_gf_1 := Mem.cell X6_gf.out 1
  have c6_gf_2 := Mem.cell X6_gf.out 2
  have c6_gf_3 := Mem.cell X6_gf.out 3
  have c6_gf_4 := Mem.cell X6_gf.out 4
  simp at c6_gp_0 c6_gp_1 c6_ge_0 c6_ge_1 c6_ge_2 c6_gf_0 c6_gf_1 c6_gf_2 c6_gf_3 c6_gf_4
  have hc := l_f1_no S6.out (.inr (by omega)) (by omega) 0 2 1 (by decide) 1 rfl (by decide) (by decide) 5 (by decide) (by decide) (Lib.hid (by decide)) X6_gf.out
  go_upto_region 10 with (go_at_call 53; refine hc.mono ?_; rintro e w6' ⟨rfl, hS, hM, hF⟩; try simp at hM)
  have X7_gp := Lib.hid (mem_fr X6_gp.out hF (by unfold PG; omega))
  have X7_ge := Lib.hid (mem_fr X6_ge.out hF (by unfold PG; omega))
  have X7_gf : Hid (Mem w6' gf 129 #[.int .i64 1, .int .i64 0, .int .i64 2, .int .i64 1, .int .i64 5]) := Lib.hid hM
  have S7 := Lib.hid hS
  clear hc hF hS hM c6_gp_0 c6_gp_1 c6_ge_0 c6_ge_1 c6_ge_2 c6_gf_0 c6_gf_1 c6_gf_2 c6_gf_3 c6_gf_4 X6_gp X6_ge X6_gf S6
  have c7_gp_0 := Mem.cell X7_gp.out 0
  have c7_gp_1 := Mem.cell X7_gp.out 1
  have c7_ge_0 := Mem.cell X7_ge.out 0
  have c7_ge_1 := Mem.cell X7_ge.out 1
  have c7_ge_2 := Mem.cell X7_ge.out 2
  have c7_gf_0 := Mem.cell X7_gf.out 0
  have c7_gf_1 := Mem.cell X7_gf.out 1
  have c7_gf_2 := Mem.cell X7_gf.out 2
  have c7_gf_3 := Mem.cell X7_gf.out 3
  have c7_gf_4 := Mem.cell X7_gf.out 4
  simp at c7_gp_0 c7_gp_1 c7_ge_0 c7_ge_1 c7_ge_2 c7_gf_0 c7_gf_1 c7_gf_2 c7_gf_3 c7_gf_4
  go_upto_region 11 with (go_at_call 50; refine (f_done gf 1 0 2 1 5 _ X7_gf.out).mono ?_; rintro e w9 ⟨rfl, rfl⟩)
  have hc := l_e1 S7.out (.inr (by omega)) (by omega) 1 (-1) (by decide) (by decide) X7_ge.out
  go_upto_region 12 with (go_at_call 41; refine hc.mono ?_; rintro e w7' ⟨rfl, hS, hM, hF⟩)
  have X8_gp := Lib.hid (mem_fr X7_gp.out hF (by unfold PG; omega))
  have X8_gf := Lib.hid (mem_fr X7_gf.out hF (by unfold PG; omega))
  have X8_ge : Hid (Mem w7' ge 123 #[.int .i64 2, .int .i64 1, .int .i64 5]) := Lib.hid hM
  have S8 := Lib.hid hS
  clear hc hF hS hM c7_gp_0 c7_gp_1 c7_ge_0 c7_ge_1 c7_ge_2 c7_gf_0 c7_gf_1 c7_gf_2 c7_gf_3 c7_gf_4 X7_gp X7_ge X7_gf S7
  have c8_gp_0 := Mem.cell X8_gp.out 0
  have c8_gp_1 := Mem.cell X8_gp.out 1
  have c8_ge_0 := Mem.cell X8_ge.out 0
  have c8_ge_1 := Mem.cell X8_ge.out 1
  have c8_ge_2 := Mem.cell X8_ge.out 2
  have c8_gf_0 := Mem.cell X8_gf.out 0
  have c8_gf_1 := Mem.cell X8_gf.out 1
  have c8_gf_2 := Mem.cell X8_gf.out 2
  have c8_gf_3 := Mem.cell X8_gf.out 3
  have c8_gf_4 := Mem.cell X8_gf.out 4
  simp at c8_gp_0 c8_gp_1 c8_ge_0 c8_ge_1 c8_ge_2 c8_gf_0 c8_gf_1 c8_gf_2 c8_gf_3 c8_gf_4
  have hc := l_e2 S8.out (.inr (by omega)) (by omega) 1 (by decide) 1 rfl 5 (by decide) (by decide) X8_ge.out
  go_upto_region 13 with (go_at_call 41; refine hc.mono ?_; rintro e w8' ⟨rfl, hS, hM, hF⟩)
  have X9_gp := Lib.hid (mem_fr X8_gp.out hF (by unfold PG; omega))
  have X9_gf := Lib.hid (mem_fr X8_gf.out hF (by unfold PG; omega))
  have X9_ge : Hid (Mem w8' ge 123 #[.int .i64 3, .int .i64 1, .int .i64 5]) := Lib.hid hM
  have S9 := Lib.hid hS
  clear hc hF hS hM c8_gp_0 c8_gp_1 c8_ge_0 c8_ge_1 c8_ge_2 c8_gf_0 c8_gf_1 c8_gf_2 c8_gf_3 c8_gf_4 X8_gp X8_ge X8_gf S8
  have c9_gp_0 := Mem.cell X9_gp.out 0
  have c9_gp_1 := Mem.cell X9_gp.out 1
  have c9_ge_0 := Mem.cell X9_ge.out 0
  have c9_ge_1 := Mem.cell X9_ge.out 1
  have c9_ge_2 := Mem.cell X9_ge.out 2
  have c9_gf_0 := Mem.cell X9_gf.out 0
  have c9_gf_1 := Mem.cell X9_gf.out 1
  have c9_gf_2 := Mem.cell X9_gf.out 2
  have c9_gf_3 := Mem.cell X9_gf.out 3
  have c9_gf_4 := Mem.cell X9_gf.out 4
  simp at c9_gp_0 c9_gp_1 c9_ge_0 c9_ge_1 c9_ge_2 c9_gf_0 c9_gf_1 c9_gf_2 c9_gf_3 c9_gf_4
  have hc := l_f1_yes S9.out (.inr (by omega)) (by omega) 0 2 1 (by decide) 7 rfl (by decide) (by decide) 5 (by decide) (by decide) (Lib.hid (by decide)) X9_gf.out
  go_upto_region 14 with (go_at_call 53; refine hc.mono ?_; rintro e w9' ⟨rfl, hS, hM, hF⟩; try simp [fsv, skp] at hM)
  have X10_gp := Lib.hid (mem_fr X9_gp.out hF (by unfold PG; omega))
  have X10_ge := Lib.hid (mem_fr X9_ge.out hF (by unfold PG; omega))
  have X10_gf : Hid (Mem w9' gf 129 #[.int .i64 2, .int .i64 0, .int .i64 2, .int .i64 2, .int .i64 5]) := Lib.hid hM
  have S10 := Lib.hid hS
  clear hc hF hS hM c9_gp_0 c9_gp_1 c9_ge_0 c9_ge_1 c9_ge_2 c9_gf_0 c9_gf_1 c9_gf_2 c9_gf_3 c9_gf_4 X9_gp X9_ge X9_gf S9
  have c10_gp_0 := Mem.cell X10_gp.out 0
  have c10_gp_1 := Mem.cell X10_gp.out 1
  have c10_ge_0 := Mem.cell X10_ge.out 0
  have c10_ge_1 := Mem.cell X10_ge.out 1
  have c10_ge_2 := Mem.cell X10_ge.out 2
  have c10_gf_0 := Mem.cell X10_gf.out 0
  have c10_gf_1 := Mem.cell X10_gf.out 1
  have c10_gf_2 := Mem.cell X10_gf.out 2
  have c10_gf_3 := Mem.cell X10_gf.out 3
  have c10_gf_4 := Mem.cell X10_gf.out 4
  simp at c10_gp_0 c10_gp_1 c10_ge_0 c10_ge_1 c10_ge_2 c10_gf_0 c10_gf_1 c10_gf_2 c10_gf_3 c10_gf_4
  have himg := l_image S10.out
  go_wp2_with (first
    | (go_at_call 50; refine (f_done gf 2 0 2 2 5 _ X10_gf.out).mono ?_; rintro e w10 ⟨rfl, rfl⟩)
    | (go_at_call 52; refine (f_limit gf 2 0 2 2 5 _ X10_gf.out).mono ?_; rintro e w11 ⟨rfl, rfl⟩)
    | (go_at_call 38; refine (e_done ge 3 1 5 _ X10_ge.out).mono ?_; rintro e w12 ⟨rfl, rfl⟩)
    | (go_at_call 40; refine (e_snap ge 3 1 5 _ X10_ge.out).mono ?_; rintro e w13 ⟨rfl, rfl⟩)
    | (go_at_call 25; refine himg.mono ?_; rintro e w14 ⟨vd, vo, k1, k2, k3, vl, vh, vn, rfl, hown, hS, hT⟩; have HSF := Lib.hid hS; have ho4 : OwnU w14 _ vl [0, 7, 0, 0] := hown; obtain ⟨gv, gcap, gcur, rfl, _, _, _, hcs⟩ := own_cells ho4 (by decide); have hv1 := hcs 1 (by decide); have hlen1 : (1 : Int) < 4 := (by decide); have hf5 := img5 vd vo (.slice (some ⟨gv, 0, none⟩) 4 gcap) vh vn k1 k2 k3 w14; simp [us] at hv1; clear hown ho4 hcs hS hT))
  have HB := Lib.hid HSF.out.old
  go_ret
  exact ⟨rfl, HB.out⟩
end Go.Proofs.Ythgbfghhiadjpaa.EpoL
