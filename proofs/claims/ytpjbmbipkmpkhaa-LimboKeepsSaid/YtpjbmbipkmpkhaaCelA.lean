/-
  Contract of the statements' own function: awake.
-/
import Derived.Test.YtpjbmbipkmpkhaaCelN
import Derived.Test.YtpjbmbipkmpkhaaCelO
namespace Go.Proofs.Ytpjbmbipkmpkhaa.CelA
open Go.ChangeShapes Go.WideShapes Go.ChangeAt Go.RowKit
open PlainT BlkW LayS LayA LayH CelS CelM CelP CelN CelO
set_option linter.unusedVariables false
set_option maxHeartbeats 1000000

def q0 : Cfg := ⟨1, 1, 0, 0, 0, 0, 0, 1, 1, 0, 0, 0, false⟩
theorem q0_valid : Valid q0 := by unfold Valid q0; simp only; omega
theorem q0_blk : blkV q0 = ((0 : Nat) : Int) := by
  unfold blkV
  rw [if_pos (chk_iff.2 q0_valid)]
  rfl
set_option maxRecDepth 100000 in
theorem new0 (w : World) : Calls Try.prog 65 #[cfgV q0, .int .i64 1, .slice (some ⟨w.heap.size, 0, none⟩) 1 1] (w.alloc (.cells #[.int .u64 5] TU)) fun e w' => ∃ b lo hi, e = .returned (.tuple #[.pointer (some ⟨b, 0, none⟩), .int .i64 0]) ∧ w.heap.size ≤ lo ∧ Is lo hi w' b (A0 q0 0 1 1 [5]) ∧ Below w.heap.size w w' := by
  have hM : Mem (w.alloc (.cells #[.int .u64 5] TU)) w.heap.size TU #[.int .u64 5] := Mem.new _ _ _
  refine (a_new q0 q0_valid 0 1 1 q0_blk rfl (by decide) (by decide) (w.alloc (.cells #[.int .u64 5] TU)) (.slice (some ⟨w.heap.size, 0, none⟩) 1 1) [5] ⟨w.heap.size, 0, 1, rfl, ?_⟩ rfl ?_).mono ?_
  · intro j x hj
    match j, hj with
    | 0, hj =>
      simp at hj
      subst hj
      exact hM.cell 0
    | j + 1, hj => simp at hj
  · intro g hg
    simp [Value.ownBlock] at hg
    subst hg
    rw [size_new]; omega
  · rintro e w' ⟨b, rfl, hIs, hB⟩
    refine ⟨b, _, _, rfl, ?_, hIs, below_trans2 (below_new w _) hB⟩
    rw [size_new]; omega
theorem A0_4 : (A0 q0 0 1 1 [5]) 4 = [0] := rfl
theorem A0_1 : (A0 q0 0 1 1 [5]) 1 = [5] := rfl
def A1 := upd (A0 q0 0 1 1 [5]) 4 0 1
def A2 := upd A1 1 0 6
theorem A1_1 : A1 1 = [5] := rfl
theorem A2_1 : A2 1 = [6] := rfl
theorem add0 (lo hi : Nat) (w : World) (b : Nat) (h : Is lo hi w b (A0 q0 0 1 1 [5])) : Calls Try.prog 66 #[.pointer (some ⟨b, 0, none⟩), .int .i64 4, .int .i64 0, .int .u64 1] w fun e w' => Does lo hi w b A1 (accV 4 4 0 0 1 true) 0 e w' :=
  m_add lo hi w b _ h 4 (by decide) 0 (by rw [A0_4]; decide) 0 rfl 1 1 (Lib.hid rfl)
theorem swap1 (lo hi : Nat) (w : World) (b : Nat) (h : Is lo hi w b A1) : Calls Try.prog 67 #[.pointer (some ⟨b, 0, none⟩), .int .i64 1, .int .i64 0, .int .u64 5, .int .u64 6] w fun e w' => Does lo hi w b A2 (accV 3 1 0 5 6 true) 0 e w' :=
  m_swap lo hi w b _ h 1 (by decide) 0 (by rw [A1_1]; decide) 5 rfl 5 6 6 true (Lib.hid rfl) (Lib.hid rfl)
theorem swap2 (lo hi : Nat) (w : World) (b : Nat) (h : Is lo hi w b A2) : Calls Try.prog 67 #[.pointer (some ⟨b, 0, none⟩), .int .i64 1, .int .i64 0, .int .u64 5, .int .u64 7] w fun e w' => Does lo hi w b (upd A2 1 0 6) (accV 3 1 0 6 6 false) 0 e w' :=
  m_swap lo hi w b _ h 1 (by decide) 0 (by rw [A2_1]; decide) 6 rfl 5 7 6 false (Lib.hid rfl) (Lib.hid rfl)
set_option maxRecDepth 100000 in
theorem l_awake (w : World) : Calls Try.prog 10 #[] w fun e w' => e = .returned (.bool true) ∧ Below w.heap.size w w' := by
  have hnew := new0 w
  go_enter Try.func10, Try.ntmps10
  go_upto_region 5 with (first
    | (go_at_call 65; refine hnew.mono ?_; rintro e w1 ⟨b, lo, hi, rfl, hlo, hI, hB⟩)
    | (go_at_call 66; refine (add0 lo hi _ b hI).mono ?_; rintro e w2 ⟨rfl, hI2, hS2⟩))
  have HA := Lib.hid (Mem.new w2 62 #[.int .i64 4, .int .i64 4, .int .i64 0, .int .u64 0, .int .u64 1, .bool true])
  have HI2 := Lib.hid (hI2.below (below_new w2 (.cells #[.int .i64 4, .int .i64 4, .int .i64 0, .int .u64 0, .int .u64 1, .bool true] 62)))
  have t2 := hI2.top
  have HB2 := Lib.hid ((hB.trans (hS2.below hlo hB.size)).alloc (by have := hB.size; have := hS2.size; omega) (.cells #[.int .i64 4, .int .i64 4, .int .i64 0, .int .u64 0, .int .u64 1, .bool true] 62))
  have z2 := HB2.out.size
  clear hI hI2 hB hS2 hnew
  go_upto_region 6 with (go_at_call 67; refine (swap1 lo hi _ b HI2.out).mono ?_; rintro e w3 ⟨rfl, hI3, hS3⟩)
  have HA3 := Lib.hid (Mem.alloc ((hS3.block w2.heap.size (by rw [size_new]; omega) (.inr t2)).trans HA.out) (.cells #[.int .i64 3, .int .i64 1, .int .i64 0, .int .u64 5, .int .u64 6, .bool true] 62))
  have HC3 := Lib.hid (Mem.new w3 62 #[.int .i64 3, .int .i64 1, .int .i64 0, .int .u64 5, .int .u64 6, .bool true])
  have HI3 := Lib.hid (hI3.below (below_new w3 (.cells #[.int .i64 3, .int .i64 1, .int .i64 0, .int .u64 5, .int .u64 6, .bool true] 62)))
  have t3 := hI3.top
  have z3 := hS3.size
  have HB3 := Lib.hid ((HB2.out.trans (hS3.below hlo z2)).alloc (by omega) (.cells #[.int .i64 3, .int .i64 1, .int .i64 0, .int .u64 5, .int .u64 6, .bool true] 62))
  have l2 : w2.heap.size < w3.heap.size := by have := size_new w2 (.cells #[.int .i64 4, .int .i64 4, .int .i64 0, .int .u64 0, .int .u64 1, .bool true] 62); omega
  have zz3 := HB3.out.size
  clear hI3 hS3 HA HI2 HB2
  go_upto_region 7 with (go_at_call 67; refine (swap2 lo hi _ b HI3.out).mono ?_; rintro e w4 ⟨rfl, hI4, hS4⟩)
  have HA4 := (Mem.alloc ((hS4.block w2.heap.size (by rw [size_new]; omega) (.inr t2)).trans HA3.out) (.cells #[.int .i64 3, .int .i64 1, .int .i64 0, .int .u64 6, .int .u64 6, .bool false] 62))
  have HC4 := (Mem.alloc ((hS4.block w3.heap.size (by rw [size_new]; omega) (.inr t3)).trans HC3.out) (.cells #[.int .i64 3, .int .i64 1, .int .i64 0, .int .u64 6, .int .u64 6, .bool false] 62))
  have HD4 := (Mem.new w4 62 #[.int .i64 3, .int .i64 1, .int .i64 0, .int .u64 6, .int .u64 6, .bool false])
  have z4 := hS4.size
  have HB4 := Lib.hid ((HB3.out.trans (hS4.below hlo zz3)).alloc (by omega) (.cells #[.int .i64 3, .int .i64 1, .int .i64 0, .int .u64 6, .int .u64 6, .bool false] 62))
  obtain ⟨W, hW⟩ : ∃ W, w4.alloc (.cells #[.int .i64 3, .int .i64 1, .int .i64 0, .int .u64 6, .int .u64 6, .bool false] 62) = W := ⟨_, rfl⟩
  rw [hW] at HA4 HC4 HD4 HB4 ⊢
  clear hW hI4 hS4 HI3 HB3 HA3 HC3
  have a3 := HA4.cell 3
  have a4 := HA4.cell 4
  have b5 := HC4.cell 5
  have c3 := HD4.cell 3
  have c4 := HD4.cell 4
  have c5 := HD4.cell 5
  simp at a3 a4 b5 c3 c4 c5
  go_wp2
  go_ret
  exact ⟨rfl, HB4.out⟩
end Go.Proofs.Ytpjbmbipkmpkhaa.CelA
