/-
  Contracts of Skips of package isa, and what its functions share (lists of integers in memory, a valid instruction's number).
-/
import Derived.Test.YtcplhochgngedaaGreatDoorIsaA
import Derived.Lib.OwnBridge
import Derived.Lib.SlicesCompact
namespace Go.Proofs.YtcplhochgngedaaGreatDoor.IsaB
open Go.ChangeShapes Go.WideShapes Go.ChangeAt Go.RowKit
open PlainT IsaE IsaS BlkW IsaA
set_option linter.unusedVariables false
set_option maxHeartbeats 400000

/-! ### Lists of integers in memory. -/
/-- The slice '.slice A n c' holds the numbers zs. -/
def Row (w : World) (A : Option Addr) (n : Nat) (zs : List Int) : Prop :=
  zs.length = n ∧ (0 < n → ∃ b off : Nat, A = some ⟨b, off, none⟩ ∧ b < w.heap.size ∧ ∀ i, i < n → w.cell? ⟨b, off + i, none⟩ = some (.int .i64 (zs.getD i 0)))
theorem Row.nil (w : World) (A : Option Addr) : Row w A 0 [] := ⟨rfl, fun h => absurd h (by omega)⟩
theorem Row.old {w w' : World} {A : Option Addr} {n : Nat} {zs : List Int} (h : Row w A n zs) (k : Old w w') : Row w' A n zs :=
  ⟨h.1, fun hn => by
    obtain ⟨b, off, e, hb, hc⟩ := h.2 hn
    exact ⟨b, off, e, Nat.lt_of_lt_of_le hb k.1, fun i hi => (k.cell (p := ⟨b, off + i, none⟩) hb).trans (hc i hi)⟩⟩
theorem Row.of_own {w : World} {base : Nat} {e : TypeId} {v : Value} {n : Nat} {zs : List Int} (h : w.ownsRow base e 1 v n (zs.map (Value.int .i64))) : ∃ A c, v = .slice A n c ∧ n ≤ c ∧ c ≤ maxLen ∧ Row w A n zs := by
  by_cases hv : v = .slice none 0 0
  · subst hv
    rcases h.2 with ⟨_, hn⟩ | ⟨g, cap, cur, e0, _⟩
    · subst hn
      have hz : zs = [] := by simpa using h.1
      subst hz
      exact ⟨none, 0, rfl, Nat.le_refl _, Nat.zero_le _, Row.nil _ _⟩
    · cases e0
  · obtain ⟨g, cap, rfl, hb, hlt, hn, hm, hl, hH⟩ := Lib.holds_of_ownsRow h hv
    refine ⟨_, _, rfl, hn, hm, hl, fun _ => ⟨g, 0, rfl, hlt, fun i hi => ?_⟩⟩
    have hi' : i < zs.length := by omega
    have := (hH i (by simpa using hi')).1
    rw [this]
    simp [getElem!_pos, hi']
/-- A new slice of the call's own that holds zs. -/
def SliceIs (w : World) (zs : List Int) (e : Ending) (w' : World) : Prop := ∃ A n c, e = .returned (.slice A n c) ∧ n ≤ c ∧ c ≤ maxLen ∧ Row w' A n zs ∧ Below w.heap.size w w'

theorem grown_below {B : Nat} {a w w' : World} {row : Option Nat} (h : Below B a w) (hg : w.grownBy w' row) (hB : B ≤ w.heap.size) (hr : ∀ g, row = some g → B ≤ g) : Below B a w' :=
  ⟨hg.os.trans h.os, hg.tape.trans h.tape, hg.output.trans h.output, Nat.le_trans h.size hg.size, fun i hi => (hg.block i (Nat.lt_of_lt_of_le hi hB) (fun e => by have := hr i e.symm; omega)).trans (h.block i hi)⟩
theorem grown_mem {w w' : World} {g : Nat} {t : TypeId} {cs : Array Value} {row : Option Nat} (h : Mem w g t cs) (hg : w.grownBy w' row) (hr : ∀ q, row = some q → g < q) : Mem w' g t cs :=
  (hg.block g h.lt (fun e => by have := hr g e.symm; omega)).trans h
theorem grown_it {w w' : World} {g : Nat} {s : ByteArray} {p : Nat} {row : Option Nat} (h : It w g s p) (hg : w.grownBy w' row) (hr : ∀ q, row = some q → g < q) : It w' g s p :=
  (hg.block g h.lt (fun e => by have := hr g e.symm; omega)).trans h

/-! ### Check, by its value. -/
theorem a_check_v {op a b c i v : Int} (hv : chk op a b c i = v) (w : World) (h : Env w) : Calls Tryz.prog 35 #[ins op a b c i] w fun e w' => e = .returned (.int .i64 v) ∧ Below w.heap.size w w' := by
  subst hv
  exact a_check op a b c i w h
theorem chk_cases (op a b c i : Int) : chk op a b c i = 0 ∧ 0 ≤ op ∧ op < 18 ∨ chk op a b c i = 10 ∨ chk op a b c i = 11 := by
  unfold chk
  by_cases h : 0 ≤ op ∧ op < 18
  · rw [if_pos h]
    by_cases hf : fit op.toNat a b c i = true
    · rw [if_pos hf]; exact .inl ⟨rfl, h⟩
    · rw [if_neg hf]; exact .inr (.inr rfl)
  · rw [if_neg h]; exact .inr (.inl rfl)

/-! ### Uses. -/
def usesL (k : Nat) : List UInt8 := opUses.getD k []
def usesB (k : Nat) : ByteArray := ⟨(usesL k).toArray⟩
def fldV (a b c : Int) (l : UInt8) : Int := if l = 97 then a else if l = 98 then b else if l = 99 then c else 0
def vals (k : Nat) (a b c : Int) : List Int := (usesL k).map (fldV a b c)
/-- Ascending, each once. -/
def twoU (zs : List Int) : List Int := Lib.compact (zs.mergeSort fun x y => decide (x ≤ y))
def usesV (op a b c i : Int) : List Int := if chk op a b c i = 0 then twoU (vals op.toNat a b c) else []
theorem usesV_ok {k : Nat} {a b c i : Int} (h : chk k a b c i = 0) : usesV k a b c i = twoU (vals k a b c) := by unfold usesV; rw [if_pos h, Int.toNat_natCast]
theorem usesV_no {op a b c i : Int} (h : chk op a b c i ≠ 0) : usesV op a b c i = [] := by unfold usesV; rw [if_neg h]
theorem uses_at (k p : Nat) (hp : p < (usesL k).length) : ∃ l : UInt8, (l = 97 ∨ l = 98 ∨ l = 99) ∧ (usesL k).take (p + 1) = (usesL k).take p ++ [l] ∧ ∀ h, (usesB k)[p]'h = l := by
  refine ⟨(usesL k)[p], ?_, take_snoc _ p hp, fun h => rfl⟩
  by_cases hk : k < 18
  · have all : ∀ k : Fin 18, ∀ l ∈ usesL k.val, l = 97 ∨ l = 98 ∨ l = 99 := by decide
    exact all ⟨k, hk⟩ _ (List.getElem_mem hp)
  · exfalso
    unfold usesL at hp
    rw [List.getD_eq_getElem?_getD, List.getElem?_eq_none (by show 18 ≤ k; omega)] at hp
    simp at hp
theorem uses_le (k : Nat) : (usesL k).length ≤ 2 := by
  by_cases hk : k < 18
  · have all : ∀ k : Fin 18, (usesL k.val).length ≤ 2 := by decide
    exact all ⟨k, hk⟩
  · unfold usesL
    rw [List.getD_eq_getElem?_getD, List.getElem?_eq_none (by show 18 ≤ k; omega)]
    decide
theorem shape_uses {w : World} (h : Env w) (k : Nat) (hk : k < 18) : w.cell? ⟨0, k * 5 + 2, none⟩ = some (.string (usesB k)) := by
  rw [shape_cell h k 2 hk (by omega)]
  rcases op_cases hk with rfl | rfl | rfl | rfl | rfl | rfl | rfl | rfl | rfl | rfl | rfl | rfl | rfl | rfl | rfl | rfl | rfl | rfl <;> rfl
theorem next_use (k p : Nat) (l : UInt8) (hp : p < (usesL k).length) (hl : l = 97 ∨ l = 98 ∨ l = 99) (hs : ∀ h, (usesB k)[p]'h = l) {g : Nat} {wr : World} (hit : It wr g (usesB k) p) :
    ∀ ty, (Instr.next (.pointer (some ⟨g, 0, none⟩)) true ty).run Tryz.prog wr = .ok (.tuple #[.bool true, .int .i64 p, .int .i32 (l.toNat : Int)]) (wr.iterAt g (usesB k) (p + 1)) := by
  intro ty
  have hltB : p < (usesB k).size := hp
  have hasc : ((usesB k)[p]'hltB).toNat < 128 := by
    rw [hs hltB]
    rcases hl with e | e | e <;> rw [e] <;> decide
  have := Lib.run_next_ascii_at (P := Tryz.prog) wr g (usesB k) p ty hit hltB hasc
  rw [hs hltB] at this
  exact this
theorem next_use_end (k p : Nat) (hp : ¬ p < (usesL k).length) {g : Nat} {wr : World} (hit : It wr g (usesB k) p) : ∀ ty, (Instr.next (.pointer (some ⟨g, 0, none⟩)) true ty).run Tryz.prog wr = .ok (.tuple #[.bool false]) wr := fun ty => Lib.run_next_end_at wr g (usesB k) p ty hit hp

def boxed (op a b c i : Int) : Array Value := #[.int .i64 op, .int .i64 a, .int .i64 b, .int .i64 c, .int .i64 i]
theorem boxed_cell {w : World} {g : Nat} {t : TypeId} {op a b c i : Int} (h : Mem w g t (boxed op a b c i)) {l : UInt8} (hl : l = 97 ∨ l = 98 ∨ l = 99) : w.cell? ⟨g, fld l.toNat, none⟩ = some (.int .i64 (fldV a b c l)) := by
  rw [h.cell]
  rcases hl with rfl | rfl | rfl <;> rfl
theorem vals_step {k p : Nat} {l : UInt8} {a b c : Int} (e : (usesL k).take (p + 1) = (usesL k).take p ++ [l]) : ((vals k a b c).take (p + 1)) = (vals k a b c).take p ++ [fldV a b c l] := by
  unfold vals
  rw [← List.map_take, e, List.map_append, ← List.map_take]
  rfl
theorem a_field_any (b : Nat) (c : Int) (f : Nat) (hf : fld c = f) (w : World) : Calls Tryz.prog 63 #[.pointer (some ⟨b, 0, none⟩), .int .i32 c] w fun e w' => e = .returned (.pointer (some ⟨b, f, none⟩)) ∧ w = w' := by
  subst hf
  exact a_field b c w
theorem info_int : (Tryz.prog.info? 3).map (fun i => (i.zero, i.size, i.bytes)) = some (some (.int .i64 0), 1, 8) := by kernel_rfl
theorem info_string : (Tryz.prog.info? 9).map (fun i => (i.zero, i.size, i.bytes)) = some (some (.string ⟨#[]⟩), 1, 16) := by kernel_rfl
theorem SliceIs.nil {w w' : World} (h : Below w.heap.size w w') : SliceIs w [] (.returned (.slice none 0 0)) w' := ⟨none, 0, 0, rfl, Nat.le_refl _, Nat.zero_le _, Row.nil _ _, h⟩
/-! ### Sets, Place, Skips. -/
theorem shape_sets {w : World} (h : Env w) (k : Nat) (hk : k < 18) : w.cell? ⟨0, k * 5 + 3, none⟩ = some (.bool (opSets.getD k false)) := by
  rw [shape_cell h k 3 hk (by omega)]
  rcases op_cases hk with rfl | rfl | rfl | rfl | rfl | rfl | rfl | rfl | rfl | rfl | rfl | rfl | rfl | rfl | rfl | rfl | rfl | rfl <;> rfl
theorem shape_place {w : World} (h : Env w) (k : Nat) (hk : k < 18) : w.cell? ⟨0, k * 5 + 4, none⟩ = some (.int .i64 (opPlaces.getD k 0)) := by
  rw [shape_cell h k 4 hk (by omega)]
  rcases op_cases hk with rfl | rfl | rfl | rfl | rfl | rfl | rfl | rfl | rfl | rfl | rfl | rfl | rfl | rfl | rfl | rfl | rfl | rfl <;> rfl
def setsV (op a b c i : Int) : Int := if chk op a b c i = 0 then (if opSets.getD op.toNat false = true then a else -1) else -1
def placeV (op a b c i : Int) : Int := if chk op a b c i = 0 then opPlaces.getD op.toNat 0 else 0
def skipsB (op a b c i : Int) : Bool := decide (chk op a b c i = 0) && (decide (op = 4) || (decide (op = 5) || decide (op = 6)))
def skipsV (op a b c i : Int) : Int := if skipsB op a b c i = true then i else 0
theorem a_skips_v (op a b c i v : Int) (y : Bool) (hy : skipsB op a b c i = y) (hv : skipsV op a b c i = v) (w : World) (h : Env w) : Calls Tryz.prog 67 #[ins op a b c i] w fun e w' => e = .returned (.tuple #[.int .i64 v, .bool y]) ∧ Below w.heap.size w w' := by
  show Calls _ _ #[.agg _] _ _
  unfold skipsV at hv
  rw [hy] at hv
  unfold skipsB at hy
  rcases chk_cases op a b c i with ⟨h0, h1, h2⟩ | h0 | h0
  · rw [decide_eq_true h0, Bool.true_and] at hy
    have HV := Lib.hid h0
    clear h0
    by_cases ho : op = 4 ∨ op = 5 ∨ op = 6
    · have e : (decide (op = 4) || (decide (op = 5) || decide (op = 6))) = true := by rcases ho with rfl | rfl | rfl <;> rfl
      rw [e] at hy
      subst hy
      rw [if_pos rfl] at hv
      subst hv
      clear e h1 h2
      rcases ho with rfl | rfl | rfl
      all_goals
        go_enter Tryz.func67, Tryz.ntmps67
        go_wp2_with fail
        refine (a_check_v HV.out _ (h.alloc _)).mono ?_
        rintro e w1 ⟨rfl, hb1⟩
        have hm1 := (Mem.new w 40 (boxed _ a b c i)).below hb1 (by simp)
        have hop := hm1.cell 0
        have hii := hm1.cell 4
        simp [boxed] at hop hii
        have hbw := (below_new w (.cells (boxed _ a b c i) 40)).trans (hb1.mono (by simp))
        clear hb1 h hm1
        go_wp2
        go_ret2
        exact ⟨rfl, hbw⟩
    · have e : (decide (op = 4) || (decide (op = 5) || decide (op = 6))) = false := by
        rw [decide_eq_false (by omega : ¬ op = 4), decide_eq_false (by omega : ¬ op = 5), decide_eq_false (by omega : ¬ op = 6)]; rfl
      rw [e] at hy
      subst hy
      rw [if_neg (by simp)] at hv
      subst hv
      have q4 : (op == 4) = false := by rw [beq_eq_false_iff_ne]; omega
      have q5 : (op == 5) = false := by rw [beq_eq_false_iff_ne]; omega
      have q6 : (op == 6) = false := by rw [beq_eq_false_iff_ne]; omega
      clear e ho
      go_enter Tryz.func67, Tryz.ntmps67
      go_wp2_with fail
      refine (a_check_v HV.out _ (h.alloc _)).mono ?_
      rintro e w1 ⟨rfl, hb1⟩
      have hm1 := (Mem.new w 40 (boxed op a b c i)).below hb1 (by simp)
      have hop : w1.cell? ⟨w.heap.size, 0, none⟩ = some (.int .i64 op) := hm1.cell 0
      have hbw := (below_new w (.cells (boxed op a b c i) 40)).trans (hb1.mono (by simp))
      clear hb1 h hm1
      go_wp2
      go_ret2
      exact ⟨rfl, hbw⟩
  all_goals
    rw [decide_eq_false (by omega : ¬ chk op a b c i = 0), Bool.false_and] at hy
    subst hy
    rw [if_neg (by simp)] at hv
    subst hv
    have HV := Lib.hid h0
    clear h0
    go_enter Tryz.func67, Tryz.ntmps67
    go_wp2_with (go_at_call 35; refine (a_check_v HV.out _ (h.alloc _)).mono ?_; rintro e w1 ⟨rfl, hb1⟩)
    go_ret2
    exact ⟨rfl, (below_new _ _).trans (hb1.mono (by simp))⟩
end Go.Proofs.YtcplhochgngedaaGreatDoor.IsaB
