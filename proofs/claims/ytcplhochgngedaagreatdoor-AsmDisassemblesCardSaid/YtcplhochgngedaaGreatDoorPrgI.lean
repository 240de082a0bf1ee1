/-
  Contract of strongtxmake's instruction.
-/
import Derived.Test.YtcplhochgngedaaGreatDoorPrgC
namespace Go.Proofs.YtcplhochgngedaaGreatDoor.PrgI
open Go.ChangeShapes Go.WideShapes Go.ChangeAt Go.RowKit
open PlainT IsaE IsaS BlkW IsaA IsaB IsaF RefA PrgS
set_option linter.unusedVariables false
set_option maxHeartbeats 1000000

def insI (x : I5) : Value := .agg #[.int .i64 x.op, .int .i64 x.a, .int .i64 x.b, .int .i64 x.c, .int .i64 x.i]
theorem res_instr {w : World} {g : Nat} {a0 a1 a2 a3 a4 : Value} {tmps : Array Value} (hs : Mem w g 40 #[a0, a1, a2, a3, a4]) (h : tmps[4]? = some (.pointer (some ⟨g, 0, none⟩))) :
    (results Tryz.f43 tmps).run Tryz.prog w = .ok (.agg #[a0, a1, a2, a3, a4]) w := by
  have y0 := hs.cell 0
  have y1 := hs.cell 1
  have y2 := hs.cell 2
  have y3 := hs.cell 3
  have y4 := hs.cell 4
  simp at y0 y1 y2 y3 y4
  simp [results, Tryz.results43, go_sem, h, y0, y1, y2, y3, y4]
/-- What a made instruction is. -/
def Made (op : Int) (x : I5) : Prop := x.op = op ∧ OkI x ∧ chkI x = 0 ∧ ((op = 4 ∨ op = 5 ∨ op = 6) → x.i = 0)
theorem chk_of (k : Nat) (hk : k < 18) {a b c i : Int} (ha : rA k a = true) (hb : rB k b = true) (hc : rC k c = true) (h1 : loI k ≤ i) (h2 : i ≤ hiI k) : chk (k : Int) a b c i = 0 := by
  rw [chk_split k hk, if_pos]
  simp [ha, hb, hc, h1, h2]
theorem reg_ok {b : Bool} {r : Int} (h0 : 0 ≤ r) (h1 : r < 8) (hz : b = false → r = 0) : regR r b = true := by
  unfold regR
  cases b with
  | true => rw [if_pos rfl]; unfold reg; exact decide_eq_true ⟨h0, h1⟩
  | false => rw [if_neg (by decide)]; exact beq_iff_eq.2 (hz rfl)
set_option maxRecDepth 100000 in
theorem r_instr (op : Nat) (hop : op < 18) (n : Int) (n0 : 0 ≤ n) (n1 : n ≤ 18446744073709551615) (w : World) :
    Calls Tryz.prog 43 #[.int .i64 op, .int .u64 n] w fun e w' => (∃ x : I5, e = .returned (insI x) ∧ Made op x) ∧ Below w.heap.size w w' := by
  rcases op_cases hop with rfl | rfl | rfl | rfl | rfl | rfl | rfl | rfl | rfl | rfl | rfl | rfl | rfl | rfl | rfl | rfl | rfl | rfl
  · go_enter Tryz.func43, Tryz.ntmps43
    go_wp2
    refine bodyPost_ret (res_instr (Mem.new w _ _) rfl) rfl ⟨⟨⟨_, _, _, _, _⟩, rfl, rfl, ?_, ?_, ?_⟩, below_new _ _⟩
    · unfold OkI InInt; simp only; omega
    · unfold chkI; dsimp only; exact chk_of 0 (by decide) (reg_ok (by omega) (by omega) (fun h => by first | rfl | (exact absurd h (by decide)))) (reg_ok (by omega) (by omega) (fun h => by first | rfl | (exact absurd h (by decide)))) (reg_ok (by omega) (by omega) (fun h => by first | rfl | (exact absurd h (by decide)))) (by rw [show loI 0 = 0 by decide]; omega) (by rw [show hiI 0 = 0 by decide]; omega)
    · intro h; first | rfl | omega
  · go_enter Tryz.func43, Tryz.ntmps43
    go_wp2
    refine bodyPost_ret (res_instr (Mem.new w _ _) rfl) rfl ⟨⟨⟨_, _, _, _, _⟩, rfl, rfl, ?_, ?_, ?_⟩, below_new _ _⟩
    · unfold OkI InInt; simp only; omega
    · unfold chkI; dsimp only; exact chk_of 1 (by decide) (reg_ok (by omega) (by omega) (fun h => by first | rfl | (exact absurd h (by decide)))) (reg_ok (by omega) (by omega) (fun h => by first | rfl | (exact absurd h (by decide)))) (reg_ok (by omega) (by omega) (fun h => by first | rfl | (exact absurd h (by decide)))) (by rw [show loI 1 = (-9223372036854775808) by decide]; omega) (by rw [show hiI 1 = 9223372036854775807 by decide]; omega)
    · intro h; first | rfl | omega
  · go_enter Tryz.func43, Tryz.ntmps43
    go_wp2
    refine bodyPost_ret (res_instr (Mem.new w _ _) rfl) rfl ⟨⟨⟨_, _, _, _, _⟩, rfl, rfl, ?_, ?_, ?_⟩, below_new _ _⟩
    · unfold OkI InInt; simp only; omega
    · unfold chkI; dsimp only; exact chk_of 2 (by decide) (reg_ok (by omega) (by omega) (fun h => by first | rfl | (exact absurd h (by decide)))) (reg_ok (by omega) (by omega) (fun h => by first | rfl | (exact absurd h (by decide)))) (reg_ok (by omega) (by omega) (fun h => by first | rfl | (exact absurd h (by decide)))) (by rw [show loI 2 = 0 by decide]; omega) (by rw [show hiI 2 = 0 by decide]; omega)
    · intro h; first | rfl | omega
  · have hv : n / 64 % 1024 % 6 = 0 ∨ n / 64 % 1024 % 6 = 1 ∨ n / 64 % 1024 % 6 = 2 ∨ n / 64 % 1024 % 6 = 3 ∨ n / 64 % 1024 % 6 = 4 ∨ n / 64 % 1024 % 6 = 5 := by omega
    rcases hv with h | h | h | h | h | h
    all_goals
      go_enter Tryz.func43, Tryz.ntmps43
      go_wp2
      refine bodyPost_ret (res_instr ((Mem.new w _ _).alloc _) rfl) rfl ⟨⟨⟨_, _, _, _, _⟩, rfl, rfl, ?_, ?_, ?_⟩, below_new2 _ _ _⟩
      · unfold OkI InInt; simp only; omega
      · unfold chkI; dsimp only; exact chk_of 3 (by decide) (reg_ok (by omega) (by omega) (fun h => by first | rfl | (exact absurd h (by decide)))) (reg_ok (by omega) (by omega) (fun h => by first | rfl | (exact absurd h (by decide)))) (reg_ok (by omega) (by omega) (fun h => by first | rfl | (exact absurd h (by decide)))) (by rw [show loI 3 = 0 by decide]; omega) (by rw [show hiI 3 = 21 by decide]; omega)
      · intro h; omega
  · go_enter Tryz.func43, Tryz.ntmps43
    go_wp2
    refine bodyPost_ret (res_instr (Mem.new w _ _) rfl) rfl ⟨⟨⟨_, _, _, _, _⟩, rfl, rfl, ?_, ?_, ?_⟩, below_new _ _⟩
    · unfold OkI InInt; simp only; omega
    · unfold chkI; dsimp only; exact chk_of 4 (by decide) (reg_ok (by omega) (by omega) (fun h => by first | rfl | (exact absurd h (by decide)))) (reg_ok (by omega) (by omega) (fun h => by first | rfl | (exact absurd h (by decide)))) (reg_ok (by omega) (by omega) (fun h => by first | rfl | (exact absurd h (by decide)))) (by rw [show loI 4 = 0 by decide]; omega) (by rw [show hiI 4 = 64 by decide]; omega)
    · intro h; first | rfl | omega
  · go_enter Tryz.func43, Tryz.ntmps43
    go_wp2
    refine bodyPost_ret (res_instr (Mem.new w _ _) rfl) rfl ⟨⟨⟨_, _, _, _, _⟩, rfl, rfl, ?_, ?_, ?_⟩, below_new _ _⟩
    · unfold OkI InInt; simp only; omega
    · unfold chkI; dsimp only; exact chk_of 5 (by decide) (reg_ok (by omega) (by omega) (fun h => by first | rfl | (exact absurd h (by decide)))) (reg_ok (by omega) (by omega) (fun h => by first | rfl | (exact absurd h (by decide)))) (reg_ok (by omega) (by omega) (fun h => by first | rfl | (exact absurd h (by decide)))) (by rw [show loI 5 = 0 by decide]; omega) (by rw [show hiI 5 = 64 by decide]; omega)
    · intro h; first | rfl | omega
  · go_enter Tryz.func43, Tryz.ntmps43
    go_wp2
    refine bodyPost_ret (res_instr (Mem.new w _ _) rfl) rfl ⟨⟨⟨_, _, _, _, _⟩, rfl, rfl, ?_, ?_, ?_⟩, below_new _ _⟩
    · unfold OkI InInt; simp only; omega
    · unfold chkI; dsimp only; exact chk_of 6 (by decide) (reg_ok (by omega) (by omega) (fun h => by first | rfl | (exact absurd h (by decide)))) (reg_ok (by omega) (by omega) (fun h => by first | rfl | (exact absurd h (by decide)))) (reg_ok (by omega) (by omega) (fun h => by first | rfl | (exact absurd h (by decide)))) (by rw [show loI 6 = 0 by decide]; omega) (by rw [show hiI 6 = 64 by decide]; omega)
    · intro h; first | rfl | omega
  · go_enter Tryz.func43, Tryz.ntmps43
    go_wp2
    refine bodyPost_ret (res_instr (Mem.new w _ _) rfl) rfl ⟨⟨⟨_, _, _, _, _⟩, rfl, rfl, ?_, ?_, ?_⟩, below_new _ _⟩
    · unfold OkI InInt; simp only; omega
    · unfold chkI; dsimp only; exact chk_of 7 (by decide) (reg_ok (by omega) (by omega) (fun h => by first | rfl | (exact absurd h (by decide)))) (reg_ok (by omega) (by omega) (fun h => by first | rfl | (exact absurd h (by decide)))) (reg_ok (by omega) (by omega) (fun h => by first | rfl | (exact absurd h (by decide)))) (by rw [show loI 7 = 1 by decide]; omega) (by rw [show hiI 7 = 8 by decide]; omega)
    · intro h; first | rfl | omega
  · go_enter Tryz.func43, Tryz.ntmps43
    go_wp2
    refine bodyPost_ret (res_instr (Mem.new w _ _) rfl) rfl ⟨⟨⟨_, _, _, _, _⟩, rfl, rfl, ?_, ?_, ?_⟩, below_new _ _⟩
    · unfold OkI InInt; simp only; omega
    · unfold chkI; dsimp only; exact chk_of 8 (by decide) (reg_ok (by omega) (by omega) (fun h => by first | rfl | (exact absurd h (by decide)))) (reg_ok (by omega) (by omega) (fun h => by first | rfl | (exact absurd h (by decide)))) (reg_ok (by omega) (by omega) (fun h => by first | rfl | (exact absurd h (by decide)))) (by rw [show loI 8 = 0 by decide]; omega) (by rw [show hiI 8 = 0 by decide]; omega)
    · intro h; first | rfl | omega
  · go_enter Tryz.func43, Tryz.ntmps43
    go_wp2
    refine bodyPost_ret (res_instr (Mem.new w _ _) rfl) rfl ⟨⟨⟨_, _, _, _, _⟩, rfl, rfl, ?_, ?_, ?_⟩, below_new _ _⟩
    · unfold OkI InInt; simp only; omega
    · unfold chkI; dsimp only; exact chk_of 9 (by decide) (reg_ok (by omega) (by omega) (fun h => by first | rfl | (exact absurd h (by decide)))) (reg_ok (by omega) (by omega) (fun h => by first | rfl | (exact absurd h (by decide)))) (reg_ok (by omega) (by omega) (fun h => by first | rfl | (exact absurd h (by decide)))) (by rw [show loI 9 = 0 by decide]; omega) (by rw [show hiI 9 = 0 by decide]; omega)
    · intro h; first | rfl | omega
  · go_enter Tryz.func43, Tryz.ntmps43
    go_wp2
    refine bodyPost_ret (res_instr (Mem.new w _ _) rfl) rfl ⟨⟨⟨_, _, _, _, _⟩, rfl, rfl, ?_, ?_, ?_⟩, below_new _ _⟩
    · unfold OkI InInt; simp only; omega
    · unfold chkI; dsimp only; exact chk_of 10 (by decide) (reg_ok (by omega) (by omega) (fun h => by first | rfl | (exact absurd h (by decide)))) (reg_ok (by omega) (by omega) (fun h => by first | rfl | (exact absurd h (by decide)))) (reg_ok (by omega) (by omega) (fun h => by first | rfl | (exact absurd h (by decide)))) (by rw [show loI 10 = (-9223372036854775808) by decide]; omega) (by rw [show hiI 10 = 9223372036854775807 by decide]; omega)
    · intro h; first | rfl | omega
  · go_enter Tryz.func43, Tryz.ntmps43
    go_wp2
    refine bodyPost_ret (res_instr (Mem.new w _ _) rfl) rfl ⟨⟨⟨_, _, _, _, _⟩, rfl, rfl, ?_, ?_, ?_⟩, below_new _ _⟩
    · unfold OkI InInt; simp only; omega
    · unfold chkI; dsimp only; exact chk_of 11 (by decide) (reg_ok (by omega) (by omega) (fun h => by first | rfl | (exact absurd h (by decide)))) (reg_ok (by omega) (by omega) (fun h => by first | rfl | (exact absurd h (by decide)))) (reg_ok (by omega) (by omega) (fun h => by first | rfl | (exact absurd h (by decide)))) (by rw [show loI 11 = (-9223372036854775808) by decide]; omega) (by rw [show hiI 11 = 9223372036854775807 by decide]; omega)
    · intro h; first | rfl | omega
  · go_enter Tryz.func43, Tryz.ntmps43
    go_wp2
    refine bodyPost_ret (res_instr (Mem.new w _ _) rfl) rfl ⟨⟨⟨_, _, _, _, _⟩, rfl, rfl, ?_, ?_, ?_⟩, below_new _ _⟩
    · unfold OkI InInt; simp only; omega
    · unfold chkI; dsimp only; exact chk_of 12 (by decide) (reg_ok (by omega) (by omega) (fun h => by first | rfl | (exact absurd h (by decide)))) (reg_ok (by omega) (by omega) (fun h => by first | rfl | (exact absurd h (by decide)))) (reg_ok (by omega) (by omega) (fun h => by first | rfl | (exact absurd h (by decide)))) (by rw [show loI 12 = (-9223372036854775808) by decide]; omega) (by rw [show hiI 12 = 9223372036854775807 by decide]; omega)
    · intro h; first | rfl | omega
  · go_enter Tryz.func43, Tryz.ntmps43
    go_wp2
    refine bodyPost_ret (res_instr (Mem.new w _ _) rfl) rfl ⟨⟨⟨_, _, _, _, _⟩, rfl, rfl, ?_, ?_, ?_⟩, below_new _ _⟩
    · unfold OkI InInt; simp only; omega
    · unfold chkI; dsimp only; exact chk_of 13 (by decide) (reg_ok (by omega) (by omega) (fun h => by first | rfl | (exact absurd h (by decide)))) (reg_ok (by omega) (by omega) (fun h => by first | rfl | (exact absurd h (by decide)))) (reg_ok (by omega) (by omega) (fun h => by first | rfl | (exact absurd h (by decide)))) (by rw [show loI 13 = (-9223372036854775808) by decide]; omega) (by rw [show hiI 13 = 9223372036854775807 by decide]; omega)
    · intro h; first | rfl | omega
  · go_enter Tryz.func43, Tryz.ntmps43
    go_wp2
    refine bodyPost_ret (res_instr (Mem.new w _ _) rfl) rfl ⟨⟨⟨_, _, _, _, _⟩, rfl, rfl, ?_, ?_, ?_⟩, below_new _ _⟩
    · unfold OkI InInt; simp only; omega
    · unfold chkI; dsimp only; exact chk_of 14 (by decide) (reg_ok (by omega) (by omega) (fun h => by first | rfl | (exact absurd h (by decide)))) (reg_ok (by omega) (by omega) (fun h => by first | rfl | (exact absurd h (by decide)))) (reg_ok (by omega) (by omega) (fun h => by first | rfl | (exact absurd h (by decide)))) (by rw [show loI 14 = 0 by decide]; omega) (by rw [show hiI 14 = 3 by decide]; omega)
    · intro h; first | rfl | omega
  · go_enter Tryz.func43, Tryz.ntmps43
    go_wp2
    refine bodyPost_ret (res_instr (Mem.new w _ _) rfl) rfl ⟨⟨⟨_, _, _, _, _⟩, rfl, rfl, ?_, ?_, ?_⟩, below_new _ _⟩
    · unfold OkI InInt; simp only; omega
    · unfold chkI; dsimp only; exact chk_of 15 (by decide) (reg_ok (by omega) (by omega) (fun h => by first | rfl | (exact absurd h (by decide)))) (reg_ok (by omega) (by omega) (fun h => by first | rfl | (exact absurd h (by decide)))) (reg_ok (by omega) (by omega) (fun h => by first | rfl | (exact absurd h (by decide)))) (by rw [show loI 15 = 0 by decide]; omega) (by rw [show hiI 15 = 0 by decide]; omega)
    · intro h; first | rfl | omega
  · go_enter Tryz.func43, Tryz.ntmps43
    go_wp2
    refine bodyPost_ret (res_instr (Mem.new w _ _) rfl) rfl ⟨⟨⟨_, _, _, _, _⟩, rfl, rfl, ?_, ?_, ?_⟩, below_new _ _⟩
    · unfold OkI InInt; simp only; omega
    · unfold chkI; dsimp only; exact chk_of 16 (by decide) (reg_ok (by omega) (by omega) (fun h => by first | rfl | (exact absurd h (by decide)))) (reg_ok (by omega) (by omega) (fun h => by first | rfl | (exact absurd h (by decide)))) (reg_ok (by omega) (by omega) (fun h => by first | rfl | (exact absurd h (by decide)))) (by rw [show loI 16 = 0 by decide]; omega) (by rw [show hiI 16 = 0 by decide]; omega)
    · intro h; first | rfl | omega
  · go_enter Tryz.func43, Tryz.ntmps43
    go_wp2
    refine bodyPost_ret (res_instr (Mem.new w _ _) rfl) rfl ⟨⟨⟨_, _, _, _, _⟩, rfl, rfl, ?_, ?_, ?_⟩, below_new _ _⟩
    · unfold OkI InInt; simp only; omega
    · unfold chkI; dsimp only; exact chk_of 17 (by decide) (reg_ok (by omega) (by omega) (fun h => by first | rfl | (exact absurd h (by decide)))) (reg_ok (by omega) (by omega) (fun h => by first | rfl | (exact absurd h (by decide)))) (reg_ok (by omega) (by omega) (fun h => by first | rfl | (exact absurd h (by decide)))) (by rw [show loI 17 = 0 by decide]; omega) (by rw [show hiI 17 = 0 by decide]; omega)
    · intro h; first | rfl | omega
end Go.Proofs.YtcplhochgngedaaGreatDoor.PrgI
