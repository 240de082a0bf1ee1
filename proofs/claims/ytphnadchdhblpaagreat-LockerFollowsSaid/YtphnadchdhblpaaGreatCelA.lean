/-
  Contract of the statements' own function: awake.
-/
import Derived.Test.YtphnadchdhblpaaGreatCelN
import Derived.Test.YtphnadchdhblpaaGreatCelO
namespace Go.Proofs.YtphnadchdhblpaaGreat.CelA
open Go.ChangeShapes Go.WideShapes Go.ChangeAt Go.RowKit
open PlainT BlkW LayS LayA LayH CelS CelM CelP CelN CelO
set_option linter.unusedVariables false
set_option maxHeartbeats 1000000

def q0 : Cfg := ⟨1, 1, 0, 0, 0, 0, 0, 1, 1, 0, 0, 0, false⟩
theorem q0_valid : Valid q0 := by unfold Valid q0; simp only; omega
theorem q0_blk : blkV q0 = ((0 : Nat) : Int) := by
  unfold blkV
  rw [if_pos (chk_iff.2 q0_valid)]
  rfl
set_option maxRecDepth 100000 in
theorem new0 (w : World) : Calls Tryz.prog 30 #[cfgV q0, .int .i64 1, .slice (some ⟨w.heap.size, 0, none⟩) 1 1] (w.alloc (.cells #[.int .u64 5] TU)) fun e w' => ∃ b lo hi, e = .returned (.tuple #[.pointer (some ⟨b, 0, none⟩), .int .i64 0]) ∧ w.heap.size ≤ lo ∧ Is lo hi w' b (A0 q0 0 1 1 [5]) ∧ Below w.heap.size w w' := by
  have hM : Mem (w.alloc (.cells #[.int .u64 5] TU)) w.heap.size TU #[.int .u64 5] := Mem.new _ _ _
  refine (a_new q0 q0_valid 0 1 1 q0_blk rfl (by decide) (by decide) (w.alloc (.cells #[.int .u64 5] TU)) (.slice (some ⟨w.heap.size, 0, none⟩) 1 1) [5] ⟨w.heap.size, 0, 1, rfl, ?_⟩ rfl ?_).mono ?_
  · intro j x hj
    match j, hj with
    | 0, hj =>
      simp at hj
      subst hj
      exact hM.cell 0
    | j + 1, hj => simp at hj
  · intro g hg
    simp [Value.ownBlock] at hg
    subst hg
    rw [size_new]; omega
  · rintro e w' ⟨b, rfl, hIs, hB⟩
    refine ⟨b, _, _, rfl, ?_, hIs, below_trans2 (below_new w _) hB⟩
    rw [size_new]; omega
theorem A0_4 : (A0 q0 0 1 1 [5]) 4 = [0] := rfl
theorem A0_1 : (A0 q0 0 1 1 [5]) 1 = [5] := rfl
def A1 := upd (A0 q0 0 1 1 [5]) 4 0 1
def A2 := upd A1 1 0 6
theorem A1_1 : A1 1 = [5] := rfl
theorem A2_1 : A2 1 = [6] := rfl
theorem swap1 (lo hi : Nat) (w : World) (b : Nat) (h : Is lo hi w b A1) : Calls Tryz.prog 64 #[.pointer (some ⟨b, 0, none⟩), .int .i64 1, .int .i64 0, .int .u64 5, .int .u64 6] w fun e w' => Does lo hi w b A2 (accV 3 1 0 5 6 true) 0 e w' :=
  m_swap lo hi w b _ h 1 (by decide) 0 (by rw [A1_1]; decide) 5 rfl 5 6 6 true (Lib.hid rfl) (Lib.hid rfl)
theorem swap2 (lo hi : Nat) (w : World) (b : Nat) (h : Is lo hi w b A2) : Calls Tryz.prog 64 #[.pointer (some ⟨b, 0, none⟩), .int .i64 1, .int .i64 0, .int .u64 5, .int .u64 7] w fun e w' => Does lo hi w b (upd A2 1 0 6) (accV 3 1 0 6 6 false) 0 e w' :=
  m_swap lo hi w b _ h 1 (by decide) 0 (by rw [A2_1]; decide) 6 rfl 5 7 6 false (Lib.hid rfl) (Lib.hid rfl)
end Go.Proofs.YtphnadchdhblpaaGreat.CelA
