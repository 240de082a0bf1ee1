/-
  Contracts of the functions of the statements of layer 4 that are no statements themselves: Program, awake.
-/
import Derived.Test.YtcplhochgngedaaGreatDoorDisC
namespace Go.Proofs.YtcplhochgngedaaGreatDoor.AsmL
open Go.ChangeShapes Go.WideShapes Go.ChangeAt Go.RowKit
open PlainT IsaE IsaS BlkW IsaA IsaB IsaF IsaP IsaQ IsaX IsaL AsmA AsmB IsaR MapW AsmC AsmE AsmF AsmT Bld DisA DisB DisC
open AsmS hiding nameC
set_option linter.unusedVariables false
set_option maxHeartbeats 1000000
theorem k_program (A B : Option Addr) (n m c d : Nat) (ps : List In) (w : World) (hcm : n ≤ 9223372036854775807) (hA : RowP w A n ps) (hB : RowP w B m ps) :
    Calls Tryz.prog 11 #[.slice A n c, .slice B m d] w fun e w' => e = .returned (.bool true) ∧ Below w.heap.size w w' := by
  have hl := hA.1
  obtain rfl : m = n := by have := hB.1; have := hA.1; omega
  go_enter Tryz.func11, Tryz.ntmps11
  go_wp2
  go_loopw [5] (fun i wr => ∃ k : Nat, k ≤ m ∧ i = .int .i64 k ∧ Below w.heap.size w wr) (fun i _ => m - (intOf i).toNat)
  case atStart => exact ⟨0, by omega, rfl, Below.refl _ _⟩
  case round =>
    obtain ⟨k, hk, rfl, hb⟩ := hrel
    by_cases hlt : k < m
    · obtain ⟨b1, o1, x, rfl, hb1, hx, d0, d1, d2, d3, d4⟩ := (hA.below hb).at hlt
      obtain ⟨b2, o2, y, rfl, hb2, hy, e0, e1, e2, e3, e4⟩ := (hB.below hb).at hlt
      obtain rfl : x = y := by rw [hx] at hy; exact Option.some.inj hy
      obtain ⟨op, a5, b6, c5, i5⟩ := x
      simp only at d0 d1 d2 d3 d4 e0 e1 e2 e3 e4
      clear hx hy
      go_wp2
      go_quiet (fail)
      all_goals
        go_wp2
        go_round
        case rel => exact ⟨k + 1, by omega, by go_num, below_drewN hb nq⟩
        case measure => simp [intOf]; omega
    · go_wp2
      go_ret
      exact ⟨rfl, hb⟩
theorem readAll_ok : ∀ (ls : List (List UInt8)) (n : Nat) (st st' : St), StOk st → readAll ls n st = .ok st' → StOk st'
  | [], n, st, st', h, e => by
    unfold readAll at e
    cases e
    exact h
  | l :: r, n, st, st', h, e => by
    unfold readAll at e
    cases hs : stepL st n l with
    | err a b => rw [hs] at e; cases e
    | ok s2 => rw [hs] at e; exact readAll_ok r (n + 1) s2 st' (stepL_ok h hs).1 e
theorem set_len (L : List (List UInt8 × Nat)) : ∀ (items : List AItem) (at_ : Nat) (ps : List In), setTargets L at_ items = .ok ps → ps.length = items.length
  | [], _, ps, h => by unfold setTargets at h; cases h; rfl
  | x :: r, at_, ps, h => by
    unfold setTargets at h
    have ih := set_len L r (at_ + 1)
    cases hr : setTargets L (at_ + 1) r with
    | err a b =>
      rw [hr] at h
      split at h
      · cases h
      · split at h
        · cases h
        · split at h <;> cases h
    | ok q =>
      have e := ih q hr
      rw [hr] at h
      split at h
      · cases h; simp [e]
      · split at h
        · cases h
        · split at h
          · cases h
          · cases h; simp [e]
theorem asm_len {l : List UInt8} {ps : List In} (h : asmV l = .ok ps) : ps.length ≤ 64 := by
  unfold asmV at h
  split at h
  · cases h
  · cases hr : readAll (pieces l) 1 ⟨[], []⟩ with
    | err a b => rw [hr] at h; cases h
    | ok st =>
      rw [hr] at h
      have := readAll_ok _ _ _ _ (show StOk ⟨[], []⟩ by unfold StOk; simp) hr
      rw [set_len _ _ _ _ h]
      exact this.1
theorem awake_asm : asmV (bts ⟨#[122, 101, 114, 111, 32, 114, 49, 32, 101, 110, 100, 10, 99, 111, 110, 115, 116, 32, 114, 50, 32, 53, 32, 35, 32, 102, 105, 118, 101, 10, 101, 110, 100, 58, 10]⟩) = .ok [(5, ⟨1, 0, 0, 1⟩), (1, ⟨2, 0, 0, 5⟩)] := by kernel_rfl
theorem awake_dis : disA [(4, ⟨0, 0, 0, 0⟩)] = ([106, 117, 109, 112, 32, 108, 49, 10, 108, 49, 58, 10], 0) := by kernel_rfl
/-- What Assemble returns: the program, the line, the error. -/
def outOf : Res (List In) → List In × Int × Int
  | .ok ps => (ps, 0, 0)
  | .err n er => ([], n, er)
theorem out_len (l : List UInt8) : (outOf (asmV l)).1.length ≤ 64 := by
  cases h : asmV l with
  | ok ps => exact asm_len h
  | err n er => simp [outOf]
theorem asm_out {l : List UInt8} {w w' : World} {e : Ending} (h : AsmIs l w e w') : ∃ A c, e = .returned (.tuple #[.slice A (outOf (asmV l)).1.length c, .int .i64 (outOf (asmV l)).2.1, .int .i64 (outOf (asmV l)).2.2]) ∧ RowP w' A (outOf (asmV l)).1.length (outOf (asmV l)).1 ∧ Below w.heap.size w w' := by
  obtain ⟨hb, h2⟩ := h
  cases hr : asmV l with
  | ok ps =>
    rw [hr] at h2
    obtain ⟨A, c, rfl, _, hR⟩ := h2
    exact ⟨A, c, rfl, RowP.of_ins hR, hb⟩
  | err n er =>
    rw [hr] at h2
    obtain ⟨_, rfl⟩ := h2
    exact ⟨none, 0, rfl, ⟨rfl, fun h => absurd h (by simp [outOf])⟩, hb⟩
theorem k_repeat (s : ByteArray) (z : Int) (c : Nat) (hz : z = c) (hc : s.size * c ≤ 100000000) (hc2 : c ≤ 100000000) (w : World) : Calls Tryz.prog 13 #[.string s, .int .i64 z] w fun e w' => e = .returned (.string (mk (Lib.repeatL (bts s) c))) ∧ Below w.heap.size w w' := by
  subst hz
  exact Tryz.strings_Repeat s c w (by omega) (by omega)
theorem rep_sp : ∀ c, Sp (Lib.repeatL [32] c)
  | 0 => fun x hx => by cases hx
  | c + 1 => fun x hx => by
    unfold Lib.repeatL at hx
    rcases List.mem_append.1 hx with h | h
    · exact List.mem_singleton.1 h
    · exact rep_sp c x h
theorem bare_sp : ∀ (l : List UInt8), Sp l → bareL l = l
  | [], _ => rfl
  | c :: l, h => by
    have hc : c = 32 := h c (List.mem_cons_self ..)
    have ih := bare_sp l (fun x hx => h x (List.mem_cons_of_mem _ hx))
    unfold bareL at ih ⊢
    rw [List.takeWhile_cons, if_pos (by rw [hc]; decide), ih]
theorem asm_spaces {l : List UInt8} (h : Sp l) (hl : l.length ≤ 65536) : asmV l = .ok [] := by
  have hb : bareL l = l := by
    exact bare_sp l h
  have hs : stepL ⟨[], []⟩ 1 l = .ok ⟨[], []⟩ := by
    have hst := step_empty (st := ⟨[], []⟩) (n := 1) (s := mk l) (by
      show Lib.trimB (bts (mk (bareL (bts (mk l))))) 32 = []
      rw [bts_mk, bts_mk, hb, trim_nil_iff]
      exact wordsFrom_sp l h)
    rw [bts_mk] at hst
    exact hst
  have hp : pieces l = [l] := by
    have := cutFrom_plain l [] (fun c hc => by rw [h c hc]; decide)
    exact this
  unfold asmV
  rw [if_neg (by omega), hp]
  unfold readAll
  rw [hs]
  rfl
theorem RowP.of_mem {w : World} {g : Nat} {ps : List In} (h : Mem w g 40 (rowCells ps).toArray) (hp : 0 < ps.length) : RowP w (some ⟨g, 0, none⟩) ps.length ps :=
  ⟨rfl, fun _ => ⟨g, 0, rfl, h.lt, fun j u hu => by
    rw [Nat.zero_add, h.cell, ← hu]
    simp⟩⟩
set_option maxRecDepth 100000 in
theorem l_awake (w : World) (h : EnvM w) : Calls Tryz.prog 8 #[] w fun e w' => e = .returned (.bool true) ∧ Below w.heap.size w w' := by
  go_enter Tryz.func8, Tryz.ntmps8
  go_wp2_with fail
  refine (a_assemble _ (by decide +kernel) _ h).mono ?_
  rintro e w1 ⟨hb1, h2⟩
  rw [awake_asm] at h2
  obtain ⟨A, c, rfl, hc, hR⟩ := h2
  obtain ⟨b, o, x, rfl, hb5, hx, d0, d1, d2, d3, d4⟩ := (RowP.of_ins hR).at (k := 0) (by decide)
  obtain rfl : x = (5, ⟨1, 0, 0, 1⟩) := (Option.some.inj hx).symm
  simp only [Nat.zero_mul, Nat.add_zero] at d0 d1 d2 d3 d4
  clear hx hR
  have hE1 := h.below hb1
  go_wp2_with fail
  have i0 : InInt 0 := by unfold InInt; omega
  have i4 : InInt 4 := by unfold InInt; omega
  refine (a_disassemble (some ⟨w1.heap.size, 0, none⟩) 1 1 [(4, ⟨0, 0, 0, 0⟩)] (by omega) (by decide) (fun x hx => by rw [List.mem_singleton.1 hx]; exact ⟨i4, i0, i0, i0, i0⟩) _ (hE1.alloc _).env
    (RowP.of_mem (Mem.new w1 40 (rowCells [(4, ⟨0, 0, 0, 0⟩)]).toArray) (by decide))).mono ?_
  rintro e w2 ⟨rfl, hb2⟩
  rw [awake_dis]
  have hb3 := below_trans2 hb1 (below_trans2 (below_new w1 (.cells (rowCells [(4, ⟨0, 0, 0, 0⟩)]).toArray 40)) hb2)
  have hb4 := (below_new w1 (.cells (rowCells [(4, ⟨0, 0, 0, 0⟩)]).toArray 40)).trans (hb2.mono (by rw [size_new]; omega))
  have f0 := (hb4.cell (p := ⟨b, o, none⟩) hb5).trans d0
  have f1 := (hb4.cell (p := ⟨b, o + 1, none⟩) hb5).trans d1
  have f2 := (hb4.cell (p := ⟨b, o + 2, none⟩) hb5).trans d2
  have f3 := (hb4.cell (p := ⟨b, o + 3, none⟩) hb5).trans d3
  have f4 := (hb4.cell (p := ⟨b, o + 4, none⟩) hb5).trans d4
  clear hb4 hb2 hb1 d0 d1 d2 d3 d4 h hE1
  simp only
  have hq : ((mk [106, 117, 109, 112, 32, 108, 49, 10, 108, 49, 58, 10]).toList == [106, 117, 109, 112, 32, 108, 49, 10, 108, 49, 58, 10]) = true := by rw [ByteArray.toList_eq]; rfl
  go_wp2
  go_ret
  exact ⟨rfl, hb3⟩
end Go.Proofs.YtcplhochgngedaaGreatDoor.AsmL
