/-
  Contract of the statements' own sanity check of layer 11: awake.
-/
import Derived.Test.YtnakmajnljpblaaFreS
import Derived.Deep.RegionHeld3
namespace Go.Proofs.Ytnakmajnljpblaa.FreL
open Go.ChangeShapes Go.WideShapes Go.ChangeAt Go.RowKit
open PlainT BlkW LayS LayA LayH LayK LayP CelS CelM CelP CelV CelN CelO CelI CelY CelQ LabD LabR LabP LabS LabT FreP FreQ FreV FreC FreI FreA FreS FreW
set_option linter.unusedVariables false
set_option maxHeartbeats 2000000
set_option maxRecDepth 100000

/-- The second pop, i steps done. -/
def Lp (w0 : World) (lo hi b rb g : Nat) : Nat → World → Prop
  | 0, w => Fx w0 lo hi b rb [1, 4, 6, 0] [2, 3, 0, 5, 0, 0] w ∧ Mem w g TP1 (oBox 0 0 0 0 (-1))
  | 1, w => Fx w0 lo hi b rb [1, 4, 6, 0] [2, 3, 0, 5, 0, 0] w ∧ Mem w g TP1 (oBox 1 0 1 0 (-1))
  | 2, w => Fx w0 lo hi b rb [1, 4, 6, 0] [2, 3, 0, 5, 0, 0] w ∧ Mem w g TP1 (oBox 2 0 1 1 (-1))
  | _, w => Fx w0 lo hi b rb [65538, 4, 6, 0] [2, 3, 0, 5, 0, 0] w ∧ Mem w g TP1 (oBox 3 0 1 1 0)
/-- The push, i steps done. -/
def Lq (w0 : World) (lo hi b rb g : Nat) : Nat → World → Prop
  | 0, w => Fx w0 lo hi b rb [65538, 4, 6, 0] [2, 3, 0, 5, 0, 0] w ∧ Mem w g TP2 (uBox 0 0 0 0)
  | 1, w => Fx w0 lo hi b rb [65538, 4, 6, 0] [2, 3, 0, 5, 0, 0] w ∧ Mem w g TP2 (uBox 1 0 0 65538)
  | 2, w => Fx w0 lo hi b rb [65538, 4, 6, 0] [2, 3, 0, 5, 0, 0] w ∧ Mem w g TP2 (uBox 2 0 0 65538)
  | _, w => Fx w0 lo hi b rb [131073, 4, 6, 0] [2, 3, 0, 5, 0, 0] w ∧ Mem w g TP2 (uBox 3 0 0 65538)
theorem lp_step {w0 W : World} {lo hi b rb g : Nat} (hlo : w0.heap.size ≤ lo) (hle : lo ≤ hi) (hg : hi ≤ g) {i : Nat} (hi3 : i < 3) (h : Lp w0 lo hi b rb g i W) : Calls Try.prog 20 #[.pointer (some ⟨g, 0, none⟩), .pointer (some ⟨b, 0, none⟩)] W fun e w' => (∃ v, e = .returned v) ∧ Lp w0 lo hi b rb g (i + 1) w' ∧ Fr (PG lo hi g) W w' := by
  have : i = 0 ∨ i = 1 ∨ i = 2 := by omega
  rcases this with rfl | rfl | rfl
  · exact (x_load h.1 (.inr hg) (by omega) 0 0 (-1) 0 (by decide) 1 rfl (by decide) (by decide) (by decide) h.2).mono fun e w' ⟨he, hS, hM, hF⟩ => ⟨⟨_, he⟩, ⟨hS, hM⟩, hF⟩
  · exact (x_next h.1 (.inr hg) (by omega) 0 1 0 (-1) (by decide) (by decide) 0 (by decide) (by decide) 2 rfl (by decide) (by decide) h.2).mono fun e w' ⟨he, hS, hM, hF⟩ => ⟨⟨_, he⟩, ⟨hS, hM⟩, hF⟩
  · exact (x_take h.1 (.inr hg) (by omega) 1 1 (-1) (by decide) (by decide) (by decide) (by decide) 0 (by decide) rfl 65538 (by decide) 0 (by decide) h.2).mono fun e w' ⟨he, hS, hM, hF⟩ => ⟨⟨_, he⟩, ⟨hS, hM⟩, hF⟩
theorem lq_step {w0 W : World} {lo hi b rb g : Nat} (hlo : w0.heap.size ≤ lo) (hle : lo ≤ hi) (hg : hi ≤ g) {i : Nat} (hi3 : i < 3) (h : Lq w0 lo hi b rb g i W) : Calls Try.prog 24 #[.pointer (some ⟨g, 0, none⟩), .pointer (some ⟨b, 0, none⟩)] W fun e w' => (∃ v, e = .returned v) ∧ Lq w0 lo hi b rb g (i + 1) w' ∧ Fr (PG lo hi g) W w' := by
  have : i = 0 ∨ i = 1 ∨ i = 2 := by omega
  rcases this with rfl | rfl | rfl
  · exact (y_load h.1 (.inr hg) (by omega) 0 0 0 (by decide) 65538 rfl (by decide) (by decide) h.2).mono fun e w' ⟨he, hS, hM, hF⟩ => ⟨⟨_, he⟩, ⟨hS, hM⟩, hF⟩
  · exact (y_link h.1 (.inr hg) (by omega) 0 65538 (by decide) (by decide) 2 (by decide) 0 (by decide) 2 rfl h.2).mono fun e w' ⟨he, hS, hM, hF⟩ => ⟨⟨_, he⟩, ⟨hS, hM⟩, hF⟩
  · exact (y_put h.1 (.inr hg) (by omega) 0 65538 (by decide) (by decide) (by decide) (by decide) 0 (by decide) rfl 131073 (by decide) h.2).mono fun e w' ⟨he, hS, hM, hF⟩ => ⟨⟨_, he⟩, ⟨hS, hM⟩, hF⟩
theorem lit3 (w : World) (j : Nat) (x : Int) (h : [(0 : Int), 1, 2][j]? = some x) : (w.alloc (.cells #[.int .i64 0, .int .i64 1, .int .i64 2] TI)).cell? ⟨w.heap.size, 0 + j, none⟩ = some (.int .i64 x) := by
  rw [Nat.zero_add, (Mem.new w TI #[.int .i64 0, .int .i64 1, .int .i64 2]).cell]
  match j, h with
  | 0, h => simp at h; subst h; rfl
  | 1, h => simp at h; subst h; rfl
  | 2, h => simp at h; subst h; rfl
theorem lst_some {R : Option (List Int)} {l : List Int} {A : Option Addr} {n c : Nat} {er : Int} {w : World} {B : Nat} (h : R = some l) (hor : (R = none ∧ A = none ∧ n = 0 ∧ c = 0 ∧ er = 91) ∨ ∃ out, R = some out ∧ er = 0 ∧ OwnQ w B (.slice A n c) out) : er = 0 ∧ OwnQ w B (.slice A n c) l := by
  subst h
  rcases hor with ⟨h, _⟩ | ⟨out, h, h2, h3⟩
  · cases h
  · injection h with h
    subst h
    exact ⟨h2, h3⟩
theorem l_awake (w : World) : Calls Try.prog 10 #[] w fun e w' => e = .returned (.bool true) ∧ Below w.heap.size w w' := by
  go_enter Try.func10, Try.ntmps10
  go_upto_region 2 with (first | (go_at_call 12; refine (l_heap _).mono ?_; rintro e w0 ⟨rfl, hb0⟩; have HB0 := Lib.hid hb0) | (go_at_call 11; refine (l_startn hq (Lib.hid hq_valid) 2 (by decide) (by decide) _).mono ?_; rintro e w1 ⟨A, lo, hi, b, rb, rfl, hst⟩))
  have S0 := Lib.hid (fx_begun hst)
  have hlo := S0.out.lo
  have hle := S0.out.le
  clear hst hb0
  have X1_gp := Lib.hid (Mem.new w1 TP #[.pointer (some ⟨b, 0, none⟩), .pointer (some ⟨rb, 0, none⟩)])
  have S1 := Lib.hid (S0.out.alloc (.cells #[.pointer (some ⟨b, 0, none⟩), .pointer (some ⟨rb, 0, none⟩)] TP))
  have hgp_top := S0.out.top
  obtain ⟨gp, hn⟩ : ∃ gp, w1.heap.size = gp := ⟨_, rfl⟩
  have Z_gp : Hid ((w1.alloc (.cells #[.pointer (some ⟨b, 0, none⟩), .pointer (some ⟨rb, 0, none⟩)] TP)).heap.size = gp + 1) := Lib.hid (by rw [size_new, hn])
  rw [hn] at X1_gp hgp_top 
  first | rw [hn] | skip
  clear hn 
  obtain ⟨W1, hW⟩ : ∃ W', w1.alloc (.cells #[.pointer (some ⟨b, 0, none⟩), .pointer (some ⟨rb, 0, none⟩)] TP) = W' := ⟨_, rfl⟩
  rw [hW] at X1_gp S1 Z_gp
  first | rw [hW] | skip
  clear hW
  clear S0
  have c1_gp_0 := Mem.cell X1_gp.out 0
  have c1_gp_1 := Mem.cell X1_gp.out 1
  simp at c1_gp_0 c1_gp_1
  go_upto_region 3 with (go_at_call 18; refine (p_new _ _).mono ?_; rintro e w3' ⟨rfl, rfl⟩)
  have X2_gp := Lib.hid (X1_gp.out.alloc (.cells #[.int .i64 0, .int .i64 0, .int .u64 0, .int .i64 0, .int .i64 (-1)] TP1))
  have hge_gp : gp < W1.heap.size := X1_gp.out.lt
  have X2_ge := Lib.hid (Mem.new W1 TP1 #[.int .i64 0, .int .i64 0, .int .u64 0, .int .i64 0, .int .i64 (-1)])
  have S2 := Lib.hid (S1.out.alloc (.cells #[.int .i64 0, .int .i64 0, .int .u64 0, .int .i64 0, .int .i64 (-1)] TP1))
  have hge_top := S1.out.top
  obtain ⟨ge, hn⟩ : ∃ ge, W1.heap.size = ge := ⟨_, rfl⟩
  have Z_ge : Hid ((W1.alloc (.cells #[.int .i64 0, .int .i64 0, .int .u64 0, .int .i64 0, .int .i64 (-1)] TP1)).heap.size = ge + 1) := Lib.hid (by rw [size_new, hn])
  rw [hn] at X2_ge hge_top hge_gp
  first | rw [hn] | skip
  clear hn c1_gp_0 c1_gp_1
  obtain ⟨W2, hW⟩ : ∃ W', W1.alloc (.cells #[.int .i64 0, .int .i64 0, .int .u64 0, .int .i64 0, .int .i64 (-1)] TP1) = W' := ⟨_, rfl⟩
  rw [hW] at X2_gp X2_ge S2 Z_ge
  first | rw [hW] | skip
  clear hW
  clear X1_gp S1
  have c2_gp_0 := Mem.cell X2_gp.out 0
  have c2_gp_1 := Mem.cell X2_gp.out 1
  have c2_ge_0 := Mem.cell X2_ge.out 0
  have c2_ge_1 := Mem.cell X2_ge.out 1
  have c2_ge_2 := Mem.cell X2_ge.out 2
  have c2_ge_3 := Mem.cell X2_ge.out 3
  have c2_ge_4 := Mem.cell X2_ge.out 4
  simp at c2_gp_0 c2_gp_1 c2_ge_0 c2_ge_1 c2_ge_2 c2_ge_3 c2_ge_4
  have X3_gp := Lib.hid (X2_gp.out.alloc (.cells #[.int .i64 0, .int .i64 0, .int .u64 0, .int .i64 0, .int .i64 (-1)] TP1))
  have X3_ge := Lib.hid (X2_ge.out.alloc (.cells #[.int .i64 0, .int .i64 0, .int .u64 0, .int .i64 0, .int .i64 (-1)] TP1))
  have hgf_gp : gp < W2.heap.size := X2_gp.out.lt
  have hgf_ge : ge < W2.heap.size := X2_ge.out.lt
  have X3_gf := Lib.hid (Mem.new W2 TP1 #[.int .i64 0, .int .i64 0, .int .u64 0, .int .i64 0, .int .i64 (-1)])
  have S3 := Lib.hid (S2.out.alloc (.cells #[.int .i64 0, .int .i64 0, .int .u64 0, .int .i64 0, .int .i64 (-1)] TP1))
  have hgf_top := S2.out.top
  obtain ⟨gf, hn⟩ : ∃ gf, W2.heap.size = gf := ⟨_, rfl⟩
  have Z_gf : Hid ((W2.alloc (.cells #[.int .i64 0, .int .i64 0, .int .u64 0, .int .i64 0, .int .i64 (-1)] TP1)).heap.size = gf + 1) := Lib.hid (by rw [size_new, hn])
  first | rw [← Z_ge.out] | skip
  rw [hn] at X3_gf hgf_top hgf_gp hgf_ge
  first | rw [hn] | skip
  clear hn c2_gp_0 c2_gp_1 c2_ge_0 c2_ge_1 c2_ge_2 c2_ge_3 c2_ge_4
  obtain ⟨W3, hW⟩ : ∃ W', W2.alloc (.cells #[.int .i64 0, .int .i64 0, .int .u64 0, .int .i64 0, .int .i64 (-1)] TP1) = W' := ⟨_, rfl⟩
  rw [hW] at X3_gp X3_ge X3_gf S3 Z_gf
  first | rw [hW] | skip
  clear hW
  clear X2_gp X2_ge S2
  have c3_gp_0 := Mem.cell X3_gp.out 0
  have c3_gp_1 := Mem.cell X3_gp.out 1
  have c3_ge_0 := Mem.cell X3_ge.out 0
  have c3_ge_1 := Mem.cell X3_ge.out 1
  have c3_ge_2 := Mem.cell X3_ge.out 2
  have c3_ge_3 := Mem.cell X3_ge.out 3
  have c3_ge_4 := Mem.cell X3_ge.out 4
  have c3_gf_0 := Mem.cell X3_gf.out 0
  have c3_gf_1 := Mem.cell X3_gf.out 1
  have c3_gf_2 := Mem.cell X3_gf.out 2
  have c3_gf_3 := Mem.cell X3_gf.out 3
  have c3_gf_4 := Mem.cell X3_gf.out 4
  simp at c3_gp_0 c3_gp_1 c3_ge_0 c3_ge_1 c3_ge_2 c3_ge_3 c3_ge_4 c3_gf_0 c3_gf_1 c3_gf_2 c3_gf_3 c3_gf_4
  have hc := x_load S3.out (.inr (by omega)) (by omega) 0 0 (-1) 0 (by decide) 1 rfl (by decide) (by decide) (by decide) X3_ge.out
  go_upto_region 6 with (go_at_call 20; refine hc.mono ?_; rintro e w3' ⟨rfl, hS, hM, hF⟩)
  have X4_gp := Lib.hid (mem_fr X3_gp.out hF (by unfold PG; omega))
  have X4_gf := Lib.hid (mem_fr X3_gf.out hF (by unfold PG; omega))
  have X4_ge : Hid (Mem w3' ge TP1 #[.int .i64 1, .int .i64 0, .int .u64 1, .int .i64 0, .int .i64 (-1)]) := Lib.hid hM
  have S4 := Lib.hid hS
  clear hc hF hS hM c3_gp_0 c3_gp_1 c3_ge_0 c3_ge_1 c3_ge_2 c3_ge_3 c3_ge_4 c3_gf_0 c3_gf_1 c3_gf_2 c3_gf_3 c3_gf_4 X3_gp X3_ge X3_gf S3
  have c4_gp_0 := Mem.cell X4_gp.out 0
  have c4_gp_1 := Mem.cell X4_gp.out 1
  have c4_ge_0 := Mem.cell X4_ge.out 0
  have c4_ge_1 := Mem.cell X4_ge.out 1
  have c4_ge_2 := Mem.cell X4_ge.out 2
  have c4_ge_3 := Mem.cell X4_ge.out 3
  have c4_ge_4 := Mem.cell X4_ge.out 4
  have c4_gf_0 := Mem.cell X4_gf.out 0
  have c4_gf_1 := Mem.cell X4_gf.out 1
  have c4_gf_2 := Mem.cell X4_gf.out 2
  have c4_gf_3 := Mem.cell X4_gf.out 3
  have c4_gf_4 := Mem.cell X4_gf.out 4
  simp at c4_gp_0 c4_gp_1 c4_ge_0 c4_ge_1 c4_ge_2 c4_ge_3 c4_ge_4 c4_gf_0 c4_gf_1 c4_gf_2 c4_gf_3 c4_gf_4
  have hc := x_next S4.out (.inr (by omega)) (by omega) 0 1 0 (-1) (by decide) (by decide) 0 (by decide) (by decide) 2 rfl (by decide) (by decide) X4_ge.out
  go_upto_region 7 with (go_at_call 20; refine hc.mono ?_; rintro e w4' ⟨rfl, hS, hM, hF⟩)
  have X5_gp := Lib.hid (mem_fr X4_gp.out hF (by unfold PG; omega))
  have X5_gf := Lib.hid (mem_fr X4_gf.out hF (by unfold PG; omega))
  have X5_ge : Hid (Mem w4' ge TP1 #[.int .i64 2, .int .i64 0, .int .u64 1, .int .i64 1, .int .i64 (-1)]) := Lib.hid hM
  have S5 := Lib.hid hS
  clear hc hF hS hM c4_gp_0 c4_gp_1 c4_ge_0 c4_ge_1 c4_ge_2 c4_ge_3 c4_ge_4 c4_gf_0 c4_gf_1 c4_gf_2 c4_gf_3 c4_gf_4 X4_gp X4_ge X4_gf S4
  have c5_gp_0 := Mem.cell X5_gp.out 0
  have c5_gp_1 := Mem.cell X5_gp.out 1
  have c5_ge_0 := Mem.cell X5_ge.out 0
  have c5_ge_1 := Mem.cell X5_ge.out 1
  have c5_ge_2 := Mem.cell X5_ge.out 2
  have c5_ge_3 := Mem.cell X5_ge.out 3
  have c5_ge_4 := Mem.cell X5_ge.out 4
  have c5_gf_0 := Mem.cell X5_gf.out 0
  have c5_gf_1 := Mem.cell X5_gf.out 1
  have c5_gf_2 := Mem.cell X5_gf.out 2
  have c5_gf_3 := Mem.cell X5_gf.out 3
  have c5_gf_4 := Mem.cell X5_gf.out 4
  simp at c5_gp_0 c5_gp_1 c5_ge_0 c5_ge_1 c5_ge_2 c5_ge_3 c5_ge_4 c5_gf_0 c5_gf_1 c5_gf_2 c5_gf_3 c5_gf_4
  have hL : ∀ (i : Nat) W, i < 3 → Lp w0 lo hi b rb gf i W → Calls Try.prog 20 #[.pointer (some ⟨gf, 0, none⟩), .pointer (some ⟨b, 0, none⟩)] W fun e w' => (∃ v, e = .returned v) ∧ Lp w0 lo hi b rb gf (i + 1) w' ∧ Fr (PG lo hi gf) W w' := fun i W hi' hl => lp_step (by omega) (by omega) (by omega) hi' hl
  go_wp2_with fail
  go_loopw [5] (fun iv wr => ∃ i : Nat, i ≤ 3 ∧ iv = .int .i64 i ∧ Lp w0 lo hi b rb gf i wr ∧ Mem wr gp TP #[.pointer (some ⟨b, 0, none⟩), .pointer (some ⟨rb, 0, none⟩)] ∧ Mem wr ge TP1 #[.int .i64 2, .int .i64 0, .int .u64 1, .int .i64 1, .int .i64 (-1)]) (fun iv _ => 3 - (intOf iv).toNat)
  case atStart => exact ⟨0, by omega, rfl, ⟨S5.out, X5_gf.out⟩, X5_gp.out, X5_ge.out⟩
  case round =>
    clear c5_gp_0 c5_gp_1 c5_ge_0 c5_ge_1 c5_ge_2 c5_ge_3 c5_ge_4 c5_gf_0 c5_gf_1 c5_gf_2 c5_gf_3 c5_gf_4 X5_gp X5_ge X5_gf S5
    obtain ⟨i, hi3, rfl, hlp, hp, he⟩ := hrel
    have HP := Lib.hid hp
    have HE := Lib.hid he
    have HL := Lib.hid hlp
    clear hp he hlp
    have p0 := HP.out.cell 0
    simp at p0
    by_cases hlt : i < 3
    · have hltI : (i : Int) < 3 := by omega
      have hc := hL i wr hlt HL.out
      go_wp2_with (go_at_call 20; refine hc.mono ?_; rintro e w8 ⟨⟨v, rfl⟩, hl, hF⟩)
      have HL2 := Lib.hid hl
      have HP2 := Lib.hid (mem_fr HP.out hF (by unfold PG; omega))
      have HE2 := Lib.hid (mem_fr HE.out hF (by unfold PG; omega))
      clear hl hF hc
      go_roundw
      case rel => exact ⟨i + 1, by omega, by go_num, HL2.out, HP2.out, HE2.out⟩
      case measure => simp [intOf]; omega
    · obtain rfl : i = 3 := by omega
      clear hL hlt hi3
      obtain ⟨hs, hm⟩ := HL.out
      have X20_gp := HP
      have X20_ge := HE
      have X20_gf : Hid (Mem wr gf TP1 #[.int .i64 3, .int .i64 0, .int .u64 1, .int .i64 1, .int .i64 0]) := Lib.hid hm
      have S20 : Hid (Fx w0 lo hi b rb [65538, 4, 6, 0] [2, 3, 0, 5, 0, 0] wr) := Lib.hid hs
      clear HP HE HL p0 hs hm
      have c20_gp_0 := Mem.cell X20_gp.out 0
      have c20_gp_1 := Mem.cell X20_gp.out 1
      have c20_ge_0 := Mem.cell X20_ge.out 0
      have c20_ge_1 := Mem.cell X20_ge.out 1
      have c20_ge_2 := Mem.cell X20_ge.out 2
      have c20_ge_3 := Mem.cell X20_ge.out 3
      have c20_ge_4 := Mem.cell X20_ge.out 4
      have c20_gf_0 := Mem.cell X20_gf.out 0
      have c20_gf_1 := Mem.cell X20_gf.out 1
      have c20_gf_2 := Mem.cell X20_gf.out 2
      have c20_gf_3 := Mem.cell X20_gf.out 3
      have c20_gf_4 := Mem.cell X20_gf.out 4
      simp at c20_gp_0 c20_gp_1 c20_ge_0 c20_ge_1 c20_ge_2 c20_ge_3 c20_ge_4 c20_gf_0 c20_gf_1 c20_gf_2 c20_gf_3 c20_gf_4
      have hbk := p_block gf _ _ _ _ _ wr X20_gf.out
      go_upto_region 12 with (first | (go_at_call 23; refine hbk.mono ?_; rintro e w9 ⟨rfl, rfl⟩) | (go_at_call 15; refine (u_new _ _ _).mono ?_; rintro e w3' ⟨rfl, rfl⟩))
      clear hbk
      have X21_gp := Lib.hid (X20_gp.out.alloc (.cells #[.int .i64 0, .int .i64 0, .int .i64 0, .int .u64 0] TP2))
      have X21_ge := Lib.hid (X20_ge.out.alloc (.cells #[.int .i64 0, .int .i64 0, .int .i64 0, .int .u64 0] TP2))
      have X21_gf := Lib.hid (X20_gf.out.alloc (.cells #[.int .i64 0, .int .i64 0, .int .i64 0, .int .u64 0] TP2))
      have hgc_gp : gp < wr.heap.size := X20_gp.out.lt
      have hgc_ge : ge < wr.heap.size := X20_ge.out.lt
      have hgc_gf : gf < wr.heap.size := X20_gf.out.lt
      have X21_gc := Lib.hid (Mem.new wr TP2 #[.int .i64 0, .int .i64 0, .int .i64 0, .int .u64 0])
      have S21 := Lib.hid (S20.out.alloc (.cells #[.int .i64 0, .int .i64 0, .int .i64 0, .int .u64 0] TP2))
      have hgc_top := S20.out.top
      obtain ⟨gc, hn⟩ : ∃ gc, wr.heap.size = gc := ⟨_, rfl⟩
      have Z_gc : Hid ((wr.alloc (.cells #[.int .i64 0, .int .i64 0, .int .i64 0, .int .u64 0] TP2)).heap.size = gc + 1) := Lib.hid (by rw [size_new, hn])
      rw [hn] at X21_gc hgc_top hgc_gp hgc_ge hgc_gf
      first | rw [hn] | skip
      clear hn c20_gp_0 c20_gp_1 c20_ge_0 c20_ge_1 c20_ge_2 c20_ge_3 c20_ge_4 c20_gf_0 c20_gf_1 c20_gf_2 c20_gf_3 c20_gf_4
      obtain ⟨W21, hW⟩ : ∃ W', wr.alloc (.cells #[.int .i64 0, .int .i64 0, .int .i64 0, .int .u64 0] TP2) = W' := ⟨_, rfl⟩
      rw [hW] at X21_gp X21_ge X21_gf X21_gc S21 Z_gc
      first | rw [hW] | skip
      clear hW
      clear X20_gp X20_ge X20_gf S20
      have c21_gp_0 := Mem.cell X21_gp.out 0
      have c21_gp_1 := Mem.cell X21_gp.out 1
      have c21_ge_0 := Mem.cell X21_ge.out 0
      have c21_ge_1 := Mem.cell X21_ge.out 1
      have c21_ge_2 := Mem.cell X21_ge.out 2
      have c21_ge_3 := Mem.cell X21_ge.out 3
      have c21_ge_4 := Mem.cell X21_ge.out 4
      have c21_gf_0 := Mem.cell X21_gf.out 0
      have c21_gf_1 := Mem.cell X21_gf.out 1
      have c21_gf_2 := Mem.cell X21_gf.out 2
      have c21_gf_3 := Mem.cell X21_gf.out 3
      have c21_gf_4 := Mem.cell X21_gf.out 4
      have c21_gc_0 := Mem.cell X21_gc.out 0
      have c21_gc_1 := Mem.cell X21_gc.out 1
      have c21_gc_2 := Mem.cell X21_gc.out 2
      have c21_gc_3 := Mem.cell X21_gc.out 3
      simp at c21_gp_0 c21_gp_1 c21_ge_0 c21_ge_1 c21_ge_2 c21_ge_3 c21_ge_4 c21_gf_0 c21_gf_1 c21_gf_2 c21_gf_3 c21_gf_4 c21_gc_0 c21_gc_1 c21_gc_2 c21_gc_3
      have hbk := p_block gf _ _ _ _ _ W21 X21_gf.out
      have hL : ∀ (i : Nat) W, i < 3 → Lq w0 lo hi b rb gc i W → Calls Try.prog 24 #[.pointer (some ⟨gc, 0, none⟩), .pointer (some ⟨b, 0, none⟩)] W fun e w' => (∃ v, e = .returned v) ∧ Lq w0 lo hi b rb gc (i + 1) w' ∧ Fr (PG lo hi gc) W w' := fun i W hi' hl => lq_step (by omega) (by omega) (by omega) hi' hl
      go_wp2_with (go_at_call 23; refine hbk.mono ?_; rintro e w9 ⟨rfl, rfl⟩)
      go_loopw [7] (fun iv wr => ∃ i : Nat, i ≤ 3 ∧ iv = .int .i64 i ∧ Lq w0 lo hi b rb gc i wr ∧ Mem wr gp TP #[.pointer (some ⟨b, 0, none⟩), .pointer (some ⟨rb, 0, none⟩)] ∧ Mem wr ge TP1 #[.int .i64 2, .int .i64 0, .int .u64 1, .int .i64 1, .int .i64 (-1)]) (fun iv _ => 3 - (intOf iv).toNat)
      case atStart => exact ⟨0, by omega, rfl, ⟨S21.out, X21_gc.out⟩, X21_gp.out, X21_ge.out⟩
      case round =>
        clear hbk c21_gp_0 c21_gp_1 c21_ge_0 c21_ge_1 c21_ge_2 c21_ge_3 c21_ge_4 c21_gf_0 c21_gf_1 c21_gf_2 c21_gf_3 c21_gf_4 c21_gc_0 c21_gc_1 c21_gc_2 c21_gc_3 X21_gp X21_ge X21_gf X21_gc S21
        obtain ⟨i, hi3, rfl, hlp, hp, he⟩ := hrel
        have HP := Lib.hid hp
        have HE := Lib.hid he
        have HL := Lib.hid hlp
        clear hp he hlp
        have p0 := HP.out.cell 0
        simp at p0
        by_cases hlt : i < 3
        · have hltI : (i : Int) < 3 := by omega
          have hc := hL i wr hlt HL.out
          go_wp2_with (go_at_call 24; refine hc.mono ?_; rintro e w8 ⟨⟨v, rfl⟩, hl, hF⟩)
          have HL2 := Lib.hid hl
          have HP2 := Lib.hid (mem_fr HP.out hF (by unfold PG; omega))
          have HE2 := Lib.hid (mem_fr HE.out hF (by unfold PG; omega))
          clear hl hF hc
          go_roundw
          case rel => exact ⟨i + 1, by omega, by go_num, HL2.out, HP2.out, HE2.out⟩
          case measure => simp [intOf]; omega
        · obtain rfl : i = 3 := by omega
          clear hL hlt hi3
          obtain ⟨hs, hm⟩ := HL.out
          have X30_gp := HP
          have X30_ge := HE
          have X30_gc : Hid (Mem wr gc TP2 #[.int .i64 3, .int .i64 0, .int .i64 0, .int .u64 65538]) := Lib.hid hm
          have S30 : Hid (Fx w0 lo hi b rb [131073, 4, 6, 0] [2, 3, 0, 5, 0, 0] wr) := Lib.hid hs
          clear HP HE HL p0 hs hm
          have c30_gp_0 := Mem.cell X30_gp.out 0
          have c30_gp_1 := Mem.cell X30_gp.out 1
          have c30_ge_0 := Mem.cell X30_ge.out 0
          have c30_ge_1 := Mem.cell X30_ge.out 1
          have c30_ge_2 := Mem.cell X30_ge.out 2
          have c30_ge_3 := Mem.cell X30_ge.out 3
          have c30_ge_4 := Mem.cell X30_ge.out 4
          have c30_gc_0 := Mem.cell X30_gc.out 0
          have c30_gc_1 := Mem.cell X30_gc.out 1
          have c30_gc_2 := Mem.cell X30_gc.out 2
          have c30_gc_3 := Mem.cell X30_gc.out 3
          simp at c30_gp_0 c30_gp_1 c30_ge_0 c30_ge_1 c30_ge_2 c30_ge_3 c30_ge_4 c30_gc_0 c30_gc_1 c30_gc_2 c30_gc_3
          have hc := x_miss S30.out (.inr (by omega)) (by omega) 1 1 (-1) (by decide) (by decide) (by decide) (by decide) 0 (by decide) 131073 rfl (by decide) X30_ge.out
          go_upto_region 19 with (go_at_call 20; refine hc.mono ?_; rintro e w31 ⟨rfl, hS, hM, hF⟩)
          have HX := Lib.hid (Mem.new w31 50 #[.int .i64 3, .int .i64 7, .int .i64 0, .int .u64 131073, .int .u64 131073, .bool false])
          have X31_gp := Lib.hid ((mem_fr X30_gp.out hF (by unfold PG; omega)).alloc (.cells #[.int .i64 3, .int .i64 7, .int .i64 0, .int .u64 131073, .int .u64 131073, .bool false] 50))
          have X31_ge := Lib.hid (hM.alloc (.cells #[.int .i64 3, .int .i64 7, .int .i64 0, .int .u64 131073, .int .u64 131073, .bool false] 50))
          have X31_gc := Lib.hid ((mem_fr X30_gc.out hF (by unfold PG; omega)).alloc (.cells #[.int .i64 3, .int .i64 7, .int .i64 0, .int .u64 131073, .int .u64 131073, .bool false] 50))
          have S31 := Lib.hid (hS.alloc (.cells #[.int .i64 3, .int .i64 7, .int .i64 0, .int .u64 131073, .int .u64 131073, .bool false] 50))
          obtain ⟨gx, hgx⟩ : ∃ gx, w31.heap.size = gx := ⟨_, rfl⟩
          have hxt := hS.top
          rw [hgx] at HX hxt
          first | rw [hgx] | skip
          obtain ⟨W31, hW⟩ : ∃ W', w31.alloc (.cells #[.int .i64 3, .int .i64 7, .int .i64 0, .int .u64 131073, .int .u64 131073, .bool false] 50) = W' := ⟨_, rfl⟩
          rw [hW] at HX X31_gp X31_ge X31_gc S31
          first | rw [hW] | skip
          clear hW hgx hc hS hM hF X30_gp X30_ge X30_gc S30 c30_gp_0 c30_gp_1 c30_ge_0 c30_ge_1 c30_ge_2 c30_ge_3 c30_ge_4 c30_gc_0 c30_gc_1 c30_gc_2 c30_gc_3
          have p0 := X31_gp.out.cell 0
          simp at p0
          have hgl := hlo
          go_upto_region 20 with (first
            | (go_at_call 28; refine (f_image S31.out).mono ?_; rintro e w32 ⟨a1, a2, a3, a4, a5, n1, n2, n3, k1, k2, k3, k4, k5, c, t, s, rfl, o4, o5, hS, hT⟩; have hli := f_list a1 a2 a3 a4 a5 n1 n2 n3 k1 k2 k3 k4 k5 c t s (rd_own o4) (rd_own o5) rfl (by decide) (by decide) 0 (by decide) 131073 rfl (by decide) (by decide))
            | (go_at_call 61; refine hli.mono ?_; rintro e w33 ⟨A9, n9, c9, er, rfl, hb9, hor⟩))
          obtain ⟨rfl, hown⟩ := lst_some (by decide : lsV [2, 3, 0, 5, 0, 0] (131073 % 65536) = some [0, 1, 2]) hor
          have HT := Lib.hid (Fr.of_stay (P := PI lo hi) hT (fun x a c => ⟨a, c⟩))
          have Y_gp := Lib.hid (mem_fr (mem_fr X31_gp.out HT.out (by unfold PI; omega)) (Fr.of_below (P := fun _ => False) hb9) id)
          have Y_ge := Lib.hid (mem_fr (mem_fr X31_ge.out HT.out (by unfold PI; omega)) (Fr.of_below (P := fun _ => False) hb9) id)
          have Y_gc := Lib.hid (mem_fr (mem_fr X31_gc.out HT.out (by unfold PI; omega)) (Fr.of_below (P := fun _ => False) hb9) id)
          have Y_gx := Lib.hid (mem_fr (mem_fr HX.out HT.out (by unfold PI; omega)) (Fr.of_below (P := fun _ => False) hb9) id)
          have HO := Lib.hid hown
          have HS9 := Lib.hid (hS.below hb9)
          clear hli hor hown hS hT HT hb9 o4 o5 X31_gp X31_ge X31_gc HX S31 p0
          have x5 := Y_gx.out.cell 5
          simp at x5
          have hd1 := p_done ge _ _ _ _ _ w33 Y_ge.out
          have hd2 := u_done gc _ _ _ _ w33 Y_gc.out
          have hki : ∀ W, Below w33.heap.size w33 W → RdI W (.slice (some ⟨w33.heap.size, 0, none⟩) 3 3) [0, 1, 2] → Calls Try.prog 62 #[.slice A9 n9 c9, .slice (some ⟨w33.heap.size, 0, none⟩) 3 3] W fun e w' => e = .returned (.bool true) ∧ FreI.Ws W w' := fun W hb hr => k_ints W _ _ [0, 1, 2] (rdi_of HO.out hb) hr (by decide)
          have hki := hki (w33.alloc (.cells #[.int .i64 0, .int .i64 1, .int .i64 2] TI)) (below_new _ _) ⟨_, 3, rfl, fun j x hj => ⟨_, 0, rfl, lit3 w33 j x hj⟩⟩
          go_wp2_with (first
            | (go_at_call 22; refine hd1.mono ?_; rintro e w34 ⟨rfl, rfl⟩)
            | (go_at_call 26; refine hd2.mono ?_; rintro e w35 ⟨rfl, rfl⟩)
            | (go_at_call 62; refine hki.mono ?_; rintro e w36 ⟨rfl, nd, rfl⟩))
          have HBB := Lib.hid (below_trans2 HB0.out (below_drewN (HS9.out.old.trans ((below_new w33 (.cells #[.int .i64 0, .int .i64 1, .int .i64 2] TI)).mono HS9.out.old.size)) nd))
          go_ret
          exact ⟨rfl, HBB.out⟩
end Go.Proofs.Ytnakmajnljpblaa.FreL
