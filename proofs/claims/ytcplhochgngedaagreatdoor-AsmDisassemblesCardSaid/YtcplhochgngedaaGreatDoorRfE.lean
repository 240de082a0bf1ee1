/-
  Contract of the reference's Disassemble.
-/
import Derived.Test.YtcplhochgngedaaGreatDoorRfD
import Derived.Test.YtcplhochgngedaaGreatDoorAsmL
import Derived.Test.YtcplhochgngedaaGreatDoorAsmV
import Derived.Deep.Cut
import Derived.Deep.DeepCutAuto
namespace Go.Proofs.YtcplhochgngedaaGreatDoor.RfE
open Go.ChangeShapes Go.WideShapes Go.ChangeAt Go.RowKit
open PlainT IsaE IsaS BlkW IsaA IsaB IsaF IsaP IsaQ IsaX IsaL AsmA AsmB IsaR MapW AsmC AsmE AsmF AsmT Bld DisA DisB DisC AsmL RefA RefB RefF RefP RefQ RfA
open AsmS hiding nameC
set_option linter.unusedVariables false
set_option maxHeartbeats 4000000

/-- The numbers of the positions, marked by the first k. -/
def num1 (p : List In) (k : Nat) : Array Value := ((List.range (p.length + 1)).map fun j => Value.int .i64 (if AsmT.mark p k j = true then 1 else 0)).toArray
theorem num_size (p : List In) (k : Nat) : (num1 p k).size = p.length + 1 := by simp [num1]
theorem num_at (p : List In) (k j : Nat) (hj : j ≤ p.length) : (num1 p k)[j]? = some (.int .i64 (if AsmT.mark p k j = true then 1 else 0)) := by
  unfold num1
  have : j < p.length + 1 := by omega
  simp [this]
theorem num_zero (p : List In) : num1 p 0 = Array.replicate (p.length + 1) (.int .i64 0) := by
  apply Array.ext_getElem?
  intro i
  by_cases h : i ≤ p.length
  · rw [num_at _ _ _ h, AsmT.mark_zero]
    have : i < p.length + 1 := by omega
    simp [this]
  · rw [Array.getElem?_eq_none (by rw [num_size]; omega), Array.getElem?_eq_none (by simp; omega)]
theorem made_ints (n : Nat) : madeCells (#[Value.int .i64 0]) n = Array.replicate n (.int .i64 0) := by
  unfold madeCells
  apply Array.ext_getElem?
  intro i
  by_cases h : i < n
  · simp [Nat.mod_one, h]
  · rw [Array.getElem?_eq_none (by simp; omega), Array.getElem?_eq_none (by simp; omega)]
theorem num_hit {p : List In} {k t : Nat} {x : In} (hx : p[k]? = some x) (ht : tgtZ x k = (t : Int)) (hl : t ≤ p.length) : (num1 p k).setIfInBounds t (.int .i64 1) = num1 p (k + 1) := by
  apply Array.ext_getElem?
  intro j
  by_cases hj : j ≤ p.length
  · rw [num_at _ _ _ hj, AsmT.mark_succ, hits_tgt hx, ht]
    by_cases e : t = j
    · subst e
      rw [Array.getElem?_setIfInBounds_self_of_lt (by rw [num_size]; omega)]
      simp [hl]
    · rw [Array.getElem?_setIfInBounds_ne e, num_at _ _ _ hj]
      have : ¬ ((t : Int) = j) := by omega
      simp [this]
  · rw [Array.getElem?_eq_none (by rw [Array.size_setIfInBounds, num_size]; omega), Array.getElem?_eq_none (by rw [num_size]; omega)]
theorem num_miss {p : List In} {k : Nat} {x : In} (hx : p[k]? = some x) (ht : tgtZ x k < 0 ∨ (p.length : Int) < tgtZ x k) : num1 p k = num1 p (k + 1) := by
  apply Array.ext_getElem?
  intro j
  by_cases hj : j ≤ p.length
  · rw [num_at _ _ _ hj, num_at _ _ _ hj, AsmT.mark_succ, hits_tgt hx]
    have : decide (tgtZ x k = (j : Int)) = false := by
      rw [decide_eq_false_iff_not]
      omega
    rw [this, Bool.and_false, Bool.or_false]
  · rw [Array.getElem?_eq_none (by rw [num_size]; omega), Array.getElem?_eq_none (by rw [num_size]; omega)]
/-- The numbers when those below k have been given. -/
def num2 (p : List In) (k : Nat) : Array Value := ((List.range (p.length + 1)).map fun j => Value.int .i64 (if AsmT.R p j = true then (if j < k then ((cnt p (j + 1) : Nat) : Int) else 1) else 0)).toArray
theorem num2_size (p : List In) (k : Nat) : (num2 p k).size = p.length + 1 := by simp [num2]
theorem num2_at (p : List In) (k j : Nat) (hj : j ≤ p.length) : (num2 p k)[j]? = some (.int .i64 (if AsmT.R p j = true then (if j < k then ((cnt p (j + 1) : Nat) : Int) else 1) else 0)) := by
  unfold num2
  have : j < p.length + 1 := by omega
  simp [this]
theorem num2_zero (p : List In) : num1 p p.length = num2 p 0 := by
  unfold num1 num2 AsmT.R
  simp
theorem num2_put {p : List In} {k : Nat} (h : AsmT.R p k = true) : (num2 p k).setIfInBounds k (.int .i64 ((cnt p (k + 1) : Nat) : Int)) = num2 p (k + 1) := by
  apply Array.ext_getElem?
  intro j
  by_cases hj : j ≤ p.length
  · rw [num2_at _ _ _ hj]
    by_cases e : k = j
    · subst e
      rw [Array.getElem?_setIfInBounds_self_of_lt (by rw [num2_size]; omega), if_pos h, if_pos (by omega)]
    · rw [Array.getElem?_setIfInBounds_ne e, num2_at _ _ _ hj]
      by_cases hk : j < k
      · rw [if_pos hk, if_pos (show j < k + 1 by omega)]
      · rw [if_neg hk, if_neg (show ¬ j < k + 1 by omega)]
  · rw [Array.getElem?_eq_none (by rw [Array.size_setIfInBounds, num2_size]; omega), Array.getElem?_eq_none (by rw [num2_size]; omega)]
theorem num2_skip {p : List In} {k : Nat} (h : AsmT.R p k = false) : num2 p k = num2 p (k + 1) := by
  apply Array.ext_getElem?
  intro j
  by_cases hj : j ≤ p.length
  · rw [num2_at _ _ _ hj, num2_at _ _ _ hj]
    by_cases e : k = j
    · subst e
      rw [h]
      rfl
    · by_cases hk : j < k
      · rw [if_pos hk, if_pos (show j < k + 1 by omega)]
      · rw [if_neg hk, if_neg (show ¬ j < k + 1 by omega)]
  · rw [Array.getElem?_eq_none (by rw [num2_size]; omega), Array.getElem?_eq_none (by rw [num2_size]; omega)]
/-- A jump's text in words: its name, its register if it has one, its distance. -/
theorem jump_words {x : In} (hJ : isJ x = true) : ∃ (w0 : List UInt8) (mid : List (List UInt8)) (l : List UInt8), words (mk (textI x)) = (w0 :: (mid ++ [l])).map mk ∧ mid.length ≤ 1 ∧ (∀ i, (flat w0 (mid.take i)).length ≤ 60) ∧ flat w0 mid ++ [32] = pre x := by
  have hni : Nice (Lib.itoa x.2.i) := ⟨itoa_ne _, fun c hc => itoa_no_space _ c hc⟩
  have ht := text_pre hJ
  rcases AsmV.jump_fields hJ with ⟨h1, h2⟩ | ⟨h1, h2, h3, h4⟩
  · refine ⟨sJump, [], Lib.itoa x.2.i, ?_, by simp, fun i => by simp [flat]; decide, ?_⟩
    · have e : textI x = flat sJump [Lib.itoa x.2.i] := by
        rw [ht]
        unfold pre
        rw [if_pos h1]
        simp [flat]
      rw [e]
      exact words_plain sJump [Lib.itoa x.2.i] fun y hy => by
        rcases List.mem_cons.1 hy with rfl | hy
        · exact ⟨by decide, by decide⟩
        · rw [List.mem_singleton] at hy
          rw [hy]
          exact hni
    · unfold pre
      rw [if_pos h1]
      simp [flat]
  · have hreg : Nice (114 :: Lib.itoa x.2.a) := ⟨by simp, fun c hc => by
      rcases List.mem_cons.1 hc with rfl | hc
      · decide
      · exact itoa_no_space _ c hc⟩
    have hal := Lib.itoa_length_le x.2.a (by omega) (by omega)
    have key : ∀ s0 : List UInt8, Nice s0 → s0.length ≤ 20 → pre x = s0 ++ 32 :: 114 :: Lib.itoa x.2.a ++ [32] → ∃ (w0 : List UInt8) (mid : List (List UInt8)) (l : List UInt8), words (mk (textI x)) = (w0 :: (mid ++ [l])).map mk ∧ mid.length ≤ 1 ∧ (∀ i, (flat w0 (mid.take i)).length ≤ 60) ∧ flat w0 mid ++ [32] = pre x := fun s0 hn hs hp => by
      refine ⟨s0, [114 :: Lib.itoa x.2.a], Lib.itoa x.2.i, ?_, by simp, fun i => ?_, by rw [hp]; simp [flat]⟩
      · have e : textI x = flat s0 [114 :: Lib.itoa x.2.a, Lib.itoa x.2.i] := by
          rw [ht, hp]
          simp [flat]
        rw [e]
        exact words_plain s0 [114 :: Lib.itoa x.2.a, Lib.itoa x.2.i] fun y hy => by
          rcases List.mem_cons.1 hy with rfl | hy
          · exact hn
          · rcases List.mem_cons.1 hy with rfl | hy
            · exact hreg
            · rw [List.mem_singleton] at hy
              rw [hy]
              exact hni
      · cases i with
        | zero => simp [flat]; omega
        | succ i => simp [flat]; omega
    rcases h1 with h1 | h1
    · exact key sZero ⟨by decide, by decide⟩ (by decide) (by unfold pre; rw [if_neg (by omega), if_pos h1])
    · exact key sNonzero ⟨by decide, by decide⟩ (by decide) (by unfold pre; rw [if_neg (by omega), if_neg (by omega)])
/-- What is jumped to has a label. -/
theorem R_tgt {p : List In} {j : Nat} {x : In} (hx : p[j]? = some x) (hJ : isJ x = true) (ht : tgt j x ≤ p.length) : AsmT.R p (tgt j x) = true := by
  have hj : j < p.length := (List.getElem?_eq_some_iff.1 hx).1
  unfold AsmT.R AsmT.mark
  rw [Bool.and_eq_true, decide_eq_true_eq, List.any_eq_true]
  refine ⟨ht, j, List.mem_range.2 hj, ?_⟩
  have := (isJ_imm hJ).1
  rw [hits_tgt hx]
  unfold tgtZ
  rw [if_pos hJ, decide_eq_true_eq]
  unfold tgt
  omega
theorem line_next {p : List In} {j : Nat} {x : In} (hx : p[j]? = some x) : lfs (linesTo p j ++ labelLines p j) ++ (lineOf p j x ++ [10]) = lfs (linesTo p (j + 1)) := by
  rw [linesTo_succ]
  have : insLines p j = [lineOf p j x] := by unfold insLines; rw [hx]
  rw [this, ← List.append_assoc (linesTo p j), lfs_append (linesTo p j ++ labelLines p j), lfs_one]
set_option maxRecDepth 100000 in
theorem ra_disassemble (A : Option Addr) (n c : Nat) (ps : List In) (hc : n ≤ c) (hcm : c ≤ maxLen) (hO : ∀ x ∈ ps, OkI x) (w : World) (h : Env w) (hr : RowP w A n ps) :
    Calls Tryz.prog 16 #[.slice A n c] w fun e w' => e = .returned (.tuple #[.string (mk (disA ps).1), .int .i64 (disA ps).2]) ∧ Below w.heap.size w w' := by
  have hl := hr.1
  unfold maxLen at hcm
  by_cases hn : 64 < n
  · have hd : disA ps = ([], 3) := by unfold disA; rw [if_pos (by omega)]
    rw [hd]
    go_enter Tryz.func16, Tryz.ntmps16
    go_wp2
    go_ret2
    exact ⟨rfl, Below.refl _ _⟩
  · have hn' : n ≤ 64 := by omega
    go_enter Tryz.func16, Tryz.ntmps16
    have hinf : (Tryz.prog.info? 3).map (fun i => (i.zero, i.size, i.bytes)) = some (some (.int .i64 0), 1, 8) := by kernel_rfl
    obtain ⟨i0, hi, hz0, hz1, hz2⟩ := info_parts hinf
    have hmk := run_makeSlice (P := Tryz.prog) (w := w) 29 3 i0 (.int .i64 0) Tryz.underlying29 hi hz0 .i64 .i64 ((n : Int) + 1) ((n : Int) + 1) (by omega) (by omega) (by rw [hz1]; omega) (by rw [hz2]; omega) (by omega)
    rw [hz1, Nat.mul_one, show ((n : Int) + 1).toNat = n + 1 by omega, show (Value.int .i64 0).cells = #[Value.int .i64 0] from rfl, made_ints, ← hl, ← num_zero, hl] at hmk
    have hm := Mem.new w 3 (num1 ps 0)
    have hb0 := below_new w (.cells (num1 ps 0) 3)
    clear hinf hi hz0 hz1 hz2
    go_wp2
    clear hmk
    go_loopw [5] (fun i wr => ∃ k : Nat, k ≤ n ∧ i = .int .i64 k ∧ Hid (firstErr ps = firstErr (ps.drop k)) ∧ Mem wr w.heap.size 3 (num1 ps k) ∧ Below w.heap.size w wr) (fun i _ => n - (intOf i).toNat)
    case atStart => exact ⟨0, by omega, rfl, rfl, hm, hb0⟩
    case round =>
      obtain ⟨k, hk, rfl, hf, hm, hb⟩ := hrel
      have hR := hr.below hb
      by_cases hlt : k < n
      · obtain ⟨b, o, x, rfl, hb5, hx, d0, d1, d2, d3, d4⟩ := hR.at hlt
        have hst := firstErr_drop hx
        have hxO := hO x (List.mem_of_getElem? hx)
        obtain ⟨op, a5, b6, c5, i5⟩ := x
        simp only at d0 d1 d2 d3 d4
        have HX := Lib.hid hx
        have hi5 : InInt i5 := hxO.2.2.2.2
        clear hx hxO
        go_wp2_with fail
        refine (r_check_v (op := op) (a := a5) (b := b6) (c := c5) (i := i5) hi5 rfl _).mono ?_
        rintro e w1 ⟨rfl, hb1⟩
        change firstErr (ps.drop k) = if chk op a5 b6 c5 i5 = 0 then firstErr (ps.drop (k + 1)) else chk op a5 b6 c5 i5 at hst
        have hb2 := below_trans2 hb hb1
        by_cases h0 : chk op a5 b6 c5 i5 = 0
        · rw [if_pos h0] at hst
          have hf2 := Lib.hid (hf.out.trans hst)
          rw [h0]
          have e0 := (hb1.cell (p := ⟨b, o + k * 5, none⟩) hb5).trans d0
          have e1 := (hb1.cell (p := ⟨b, o + k * 5 + 1, none⟩) hb5).trans d1
          have e2 := (hb1.cell (p := ⟨b, o + k * 5 + 2, none⟩) hb5).trans d2
          have e3 := (hb1.cell (p := ⟨b, o + k * 5 + 3, none⟩) hb5).trans d3
          have e4 := (hb1.cell (p := ⟨b, o + k * 5 + 4, none⟩) hb5).trans d4
          have hm1 := hm.below hb1 hm.lt
          clear hst hf hR hb1 d0 d1 d2 d3 d4
          go_wp2_with fail
          refine (r_skips_v op a5 b6 c5 i5 _ hi5 _ rfl rfl _).mono ?_
          rintro e w2 ⟨rfl, hb3⟩
          have hm2 := hm1.below hb3 hm1.lt
          have hb4 := below_trans2 hb2 hb3
          have htz : tgtZ (op, ⟨a5, b6, c5, i5⟩) k = if skipsB op a5 b6 c5 i5 = true then (k : Int) + 1 + i5 else -1 := rfl
          cases hJ : skipsB op a5 b6 c5 i5 with
          | true =>
            have hv : skipsV op a5 b6 c5 i5 = i5 := by unfold skipsV; rw [if_pos hJ]
            rw [hv]
            rw [if_pos hJ] at htz
            obtain ⟨hi0, hi1⟩ := isJ_imm (x := (op, ⟨a5, b6, c5, i5⟩)) hJ
            simp only at hi0 hi1
            obtain ⟨q, rfl⟩ := Int.eq_ofNat_of_zero_le hi0
            clear hv hi0 hJ
            by_cases hqn : k + 1 + q ≤ n
            · have hm3 := hm2.set_ (k + 1 + q) (.int .i64 1)
              rw [num_hit HX.out (t := k + 1 + q) (by rw [htz]; omega) (by omega)] at hm3
              have hc0 := (hm2.cell (k + 1 + q)).trans (num_at ps k (k + 1 + q) (by omega))
              have hfr := hm2.frozen (k + 1 + q)
              have hb5' := hb4.setCell (p := ⟨w.heap.size, k + 1 + q, none⟩) (Nat.le_refl _) (.int .i64 1)
              have hT : ((k : Int) + 1 + (q : Int)).toNat = k + 1 + q := by omega
              clear htz hm2 hm1 hm hb3
              go_wp2
              go_round
              case rel => exact ⟨k + 1, by omega, by go_num, hf2, hm3, hb5'⟩
              case measure => simp [intOf]; omega
            · have hm3 := hm2
              rw [num_miss HX.out (by rw [htz]; omega)] at hm3
              clear htz hm2 hm1 hm hb3
              go_wp2
              go_round
              case rel => exact ⟨k + 1, by omega, by go_num, hf2, hm3, hb4⟩
              case measure => simp [intOf]; omega
          | false =>
            rw [if_neg (by rw [hJ]; decide)] at htz
            have hm3 := hm2
            rw [num_miss HX.out (by rw [htz]; omega)] at hm3
            generalize skipsV op a5 b6 c5 i5 = sv
            clear htz hm2 hm1 hm hb3 hJ
            go_wp2
            go_round
            case rel => exact ⟨k + 1, by omega, by go_num, hf2, hm3, hb4⟩
            case measure => simp [intOf]; omega
        · rw [if_neg h0] at hst
          have hd := Lib.hid (show disA ps = ([], chk op a5 b6 c5 i5) by unfold disA; rw [if_neg (by omega), hf.out, hst, if_neg h0])
          generalize chk op a5 b6 c5 i5 = v at *
          clear hst hf hR hb1
          go_wp2
          go_ret2
          exact ⟨by rw [hd.out]; rfl, hb2⟩
      · obtain rfl : k = n := by omega
        have h0 : firstErr ps = 0 := by rw [hf.out, List.drop_of_length_le (by omega)]; rfl
        have HV := Lib.hid (show disA ps = (disV ps, 0) by unfold disA; rw [if_neg (by omega), if_pos h0])
        have HC := Lib.hid (firstErr_all h0)
        have HO := Lib.hid hO
        have hm2 : Mem wr w.heap.size 3 (num2 ps 0) := by rw [← num2_zero, hl]; exact hm
        clear hf h0 hO hm hR hb0
        go_wp2
        go_loopw [9, 10] (fun cv i wq => ∃ j : Nat, j ≤ k + 1 ∧ i = .int .i64 j ∧ cv = .int .i64 (cnt ps j : Nat) ∧ Mem wq w.heap.size 3 (num2 ps j) ∧ Below w.heap.size w wq) (fun _ i _ => k + 1 - (intOf i).toNat)
        case atStart => exact ⟨0, by omega, rfl, rfl, hm2, hb⟩
        case round =>
          obtain ⟨j, hj, rfl, rfl, hm3, hbq⟩ := hrel
          clear hm2 hb
          have hcl := cnt_le ps j
          by_cases hjk : j ≤ k
          · have hc0 := (hm3.cell j).trans (num2_at ps j j (by omega))
            have hfr := hm3.frozen j
            cases hR2 : AsmT.R ps j with
            | true =>
              rw [hR2] at hc0
              simp only [if_pos, if_neg (Nat.lt_irrefl j)] at hc0
              have hm4 := hm3.set_ j (.int .i64 ((cnt ps (j + 1) : Nat) : Int))
              rw [num2_put hR2] at hm4
              have hcs : cnt ps (j + 1) = cnt ps j + 1 := by rw [cnt_succ, if_pos hR2]
              have hb5 := hbq.setCell (p := ⟨w.heap.size, j, none⟩) (Nat.le_refl _) (.int .i64 ((cnt ps (j + 1) : Nat) : Int))
              rw [hcs] at hm4 hb5
              have HS := Lib.hid hcs
              have hpc : (((cnt ps j + 1 : Nat) : Nat) : Int) = (cnt ps j : Int) + 1 := by omega
              rw [hpc] at hm4 hb5
              clear hcs hm3 hbq hpc
              go_wp2
              go_round
              case rel => exact ⟨j + 1, by omega, by go_num, by rw [HS.out]; rfl, hm4, hb5⟩
              case measure => simp [intOf]; omega
            | false =>
              rw [hR2] at hc0
              have hc1 : wr.cell? ⟨w.heap.size, j, none⟩ = some (.int .i64 0) := hc0
              have hm4 := hm3
              rw [num2_skip hR2] at hm4
              have hcs := Lib.hid (show cnt ps (j + 1) = cnt ps j by rw [cnt_succ, hR2]; rfl)
              clear hc0
              go_wp2
              go_round
              case rel => exact ⟨j + 1, by omega, by go_num, by rw [hcs.out], hm4, hbq⟩
              case measure => simp [intOf]; omega
          · obtain rfl : j = k + 1 := by omega
            clear hcl
            go_wp2
            go_loopw [11, 12] (fun ov i wq => ∃ j : Nat, j ≤ k ∧ i = .int .i64 j ∧ ov = .string (mk (lfs (linesTo ps j))) ∧ Mem wq w.heap.size 3 (num2 ps (k + 1)) ∧ Below w.heap.size w wq) (fun _ i _ => k + 1 - (intOf i).toNat)
            case atStart => exact ⟨0, by omega, rfl, rfl, hm3, hbq⟩
            case round =>
              obtain ⟨j, hj, rfl, rfl, hm4, hbz⟩ := hrel
              clear hm3 hbq
              have hll := lines_len HO.out HC.out (by omega) j (by omega)
              have hlab := label_len ps j (by omega)
              have hc0 := (hm4.cell j).trans (num2_at ps (k + 1) j (by omega))
              have hcl := cnt_le ps (j + 1)
              have hE : Env wr := h.old (.of_below hbz)
              obtain ⟨X0, hX0⟩ : ∃ X, mk (lfs (linesTo ps j)) = X := ⟨_, rfl⟩
              obtain ⟨X1, hX1⟩ : ∃ X, mk (lfs (linesTo ps j ++ labelLines ps j)) = X := ⟨_, rfl⟩
              have hsz0 : X0.size ≤ 10000 := by rw [← hX0, mk_len]; omega
              have hsz1 : X1.size ≤ 10100 := by rw [← hX1, mk_len, lfs_append, List.length_append]; omega
              rw [hX0]
              have HX0 := Lib.hid hX0
              have HX1 := Lib.hid hX1
              clear hX0 hX1
              obtain ⟨nv, hnv⟩ : ∃ nv : Int, (if AsmT.R ps j = true then (if j < k + 1 then ((cnt ps (j + 1) : Nat) : Int) else 1) else 0) = nv := ⟨_, rfl⟩
              rw [hnv] at hc0
              have HNV := Lib.hid hnv
              clear hnv
              go_upto_if 91 with fail
              go_cut [11] (fun sv wc => sv = .string X1 ∧ Below wr.heap.size wr wc)
              case first =>
                cases hR2 : AsmT.R ps j with
                | true =>
                  have hnv := HNV.out
                  rw [hR2, if_pos rfl, if_pos (by omega)] at hnv
                  subst hnv
                  obtain ⟨cn, hcn⟩ : ∃ cn, cnt ps (j + 1) = cn := ⟨_, rfl⟩
                  clear HNV
                  rw [hcn] at hc0 hcl ⊢
                  have hcs : cn = cnt ps j + 1 := by rw [← hcn, cnt_succ, if_pos hR2]
                  have hcp : (0 : Int) < cn := by omega
                  obtain ⟨IT, hIT⟩ : ∃ X, (⟨(Lib.itoa (cn : Int)).toArray⟩ : ByteArray) = X := ⟨_, rfl⟩
                  obtain ⟨Y1, hY1⟩ : ∃ X, X0 ++ ⟨#[108]⟩ = X := ⟨_, rfl⟩
                  obtain ⟨Y2, hY2⟩ : ∃ X, Y1 ++ IT = X := ⟨_, rfl⟩
                  have hfin : Y2 ++ ⟨#[58, 10]⟩ = X1 := by
                    rw [← hY2, ← hY1, ← hIT, ← HX0.out, ← HX1.out, lfs_append]
                    unfold labelLines
                    rw [if_pos hR2, lfs_one]
                    unfold nameOf
                    rw [hcs, show (⟨#[108]⟩ : ByteArray) = mk [108] from rfl, show (⟨#[58, 10]⟩ : ByteArray) = mk [58, 10] from rfl, show (⟨(Lib.itoa ((cnt ps j + 1 : Nat) : Int)).toArray⟩ : ByteArray) = mk (Lib.itoa ((cnt ps j + 1 : Nat) : Int)) from rfl, mk_append, mk_append, mk_append]
                    congr 1
                    simp
                  have hy2 : Y2.size ≤ 10100 := by
                    have := congrArg ByteArray.size hfin
                    rw [ByteArray.size_append] at this
                    omega
                  have hy1 : Y1.size ≤ 10100 := by
                    have := congrArg ByteArray.size hY2
                    rw [ByteArray.size_append] at this
                    omega
                  have hyt : IT.size ≤ 10100 := by
                    have := congrArg ByteArray.size hY2
                    rw [ByteArray.size_append] at this
                    omega
                  have hit := a_itoa cn (by omega) (by omega) wr hE
                  rw [hIT] at hit
                  clear hR2 hcs hIT hcn
                  go_wp2_with (go_at_call 41; (with_reducible refine hit.mono ?_); rintro e w5 ⟨rfl, hb5⟩)
                  all_goals go_meet
                  all_goals exact ⟨rfl, hb5⟩
                | false =>
                  have hnv := HNV.out
                  rw [hR2, if_neg (by decide)] at hnv
                  subst hnv
                  have hfin : X0 = X1 := by
                    rw [← HX0.out, ← HX1.out]
                    unfold labelLines
                    rw [if_neg (by rw [hR2]; decide), List.append_nil]
                  clear HNV hR2
                  subst hfin
                  go_wp2_with fail
                  all_goals go_meet
                  all_goals exact ⟨rfl, Below.refl _ _⟩
              case rest =>
                obtain ⟨rfl, hbw⟩ := hcut
                have hb6 := below_trans2 hbz hbw
                have hm6 := hm4.below hbw hm4.lt
                clear hc0 hbw hm4 hbz hE
                by_cases hjl : j < k
                · obtain ⟨b, o, x, rfl, hb5, hx, d0, d1, d2, d3, d4⟩ := (hr.below hb6).at hjl
                  have hx5 := List.mem_of_getElem? hx
                  have hxO := HO.out x hx5
                  have hxC := HC.out x hx5
                  have hLn := line_len (ps := ps) (j := j) hxO hxC (by omega)
                  have hTl := text_len hxO hxC
                  obtain ⟨X2, hX2⟩ : ∃ X, mk (lfs (linesTo ps (j + 1))) = X := ⟨_, rfl⟩
                  have hnx : X1 ++ (mk (lineOf ps j x) ++ ⟨#[10]⟩) = X2 := by
                    rw [← HX1.out, ← hX2, ← line_next hx, show (⟨#[10]⟩ : ByteArray) = mk [10] from rfl, mk_append, mk_append]
                  have HX2 := Lib.hid hX2
                  have HX := Lib.hid hx
                  have hrd : ∀ hJ : isJ x = true, tgt j x ≤ ps.length → Hid (AsmT.R ps (tgt j x) = true) := fun a b => Lib.hid (R_tgt hx a b)
                  clear hx hx5 hxC hX2
                  obtain ⟨L, hL⟩ : ∃ X, mk (lineOf ps j x) = X := ⟨_, rfl⟩
                  have hLs : L.size ≤ 114 := by rw [← hL, mk_len]; exact hLn
                  rw [hL] at hnx
                  obtain ⟨Y1, hY1⟩ : ∃ X, X1 ++ L = X := ⟨_, rfl⟩
                  have hY2 : Y1 ++ ⟨#[10]⟩ = X2 := by rw [← hY1, ← hnx, ByteArray.append_assoc]
                  have hys : Y1.size ≤ 10300 := by rw [← hY1, ByteArray.size_append]; omega
                  obtain ⟨S, hS⟩ : ∃ X, mk (textI x) = X := ⟨_, rfl⟩
                  have hSs : S.size ≤ 92 := by rw [← hS, mk_len]; exact hTl
                  have hjw : ∀ hJ : isJ x = true, _ := fun hJ => jump_words hJ
                  rw [hS] at hjw
                  have hpl : ¬ (isJ x = true ∧ tgt j x ≤ ps.length) → L = S := fun h => by
                    rw [← hL, ← hS]
                    unfold lineOf
                    rw [if_neg h]
                  have hnm : isJ x = true ∧ tgt j x ≤ ps.length → L = mk (pre x ++ nameOf ps (tgt j x)) := fun h => by
                    rw [← hL]
                    unfold lineOf
                    rw [if_pos h]
                  obtain ⟨op, a5, b6, c5, i5⟩ := x
                  obtain ⟨o1, o2, o3, o4, o5⟩ := hxO
                  simp only at d0 d1 d2 d3 d4 o1 o2 o3 o4 o5
                  have hSf : formatV op a5 b6 c5 i5 = S := by rw [← hS]; exact (mk_bts _).symm
                  have hE6 := h.old (.of_below hb6)
                  have kf := r_format op a5 b6 c5 i5 o2 o3 o4 o5 _ hE6
                  rw [hSf] at kf
                  have HL := Lib.hid hL
                  have HS := Lib.hid hS
                  have HR := Lib.hid hrd
                  have HW := Lib.hid hjw
                  have HP := Lib.hid hpl
                  have HN := Lib.hid hnm
                  clear hL hS hSf hrd hjw hpl hnm hLn hTl hll hlab hcl hnx
                  have KF := Lib.hid kf
                  clear kf hE6
                  go_wp2_with fail
                  refine (KF.out).mono ?_
                  rintro e w1 ⟨rfl, hb1⟩
                  have e0 := (hb1.cell (p := ⟨b, o + j * 5, none⟩) hb5).trans d0
                  have e1 := (hb1.cell (p := ⟨b, o + j * 5 + 1, none⟩) hb5).trans d1
                  have e2 := (hb1.cell (p := ⟨b, o + j * 5 + 2, none⟩) hb5).trans d2
                  have e3 := (hb1.cell (p := ⟨b, o + j * 5 + 3, none⟩) hb5).trans d3
                  have e4 := (hb1.cell (p := ⟨b, o + j * 5 + 4, none⟩) hb5).trans d4
                  have hm7 := hm6.below hb1 hm6.lt
                  have hb7 := below_trans2 hb6 hb1
                  clear d0 d1 d2 d3 d4 hm6 hb6 KF hb1
                  generalize chk op a5 b6 c5 i5 = cv
                  go_wp2_with fail
                  obtain ⟨yj, hyj⟩ : ∃ y, skipsB op a5 b6 c5 i5 = y := ⟨_, rfl⟩
                  obtain ⟨sv, hsv⟩ : ∃ y, skipsV op a5 b6 c5 i5 = y := ⟨_, rfl⟩
                  refine (r_skips_v op a5 b6 c5 i5 sv o5 yj hyj hsv _).mono ?_
                  rintro e w2 ⟨rfl, hb3⟩
                  have hm8 := hm7.below hb3 hm7.lt
                  have hb8 := below_trans2 hb7 hb3
                  clear e0 e1 e2 e3 e4 hm7 hb7 hb3
                  cases yj with
                  | false =>
                    have hls := HP.out (fun hh => by have := hh.1; unfold isJ at this; simp only at this; rw [hyj] at this; cases this)
                    subst hls
                    clear hsv hyj
                    go_wp2_with fail
                    (refine ⟨?_, ?measure⟩; (repeat apply Exists.intro); refine ⟨?rel, rfl⟩)
                    case rel => exact ⟨j + 1, by omega, by go_num, by rw [HX2.out], hm8, hb8⟩
                    case measure => simp [intOf]; omega
                  | true =>
                    have hJ : isJ (op, ⟨a5, b6, c5, i5⟩) = true := hyj
                    have hv : sv = i5 := by rw [← hsv]; unfold skipsV; rw [if_pos hyj]
                    subst hv
                    obtain ⟨hi0, hi1⟩ := isJ_imm hJ
                    simp only at hi0 hi1
                    obtain ⟨q, rfl⟩ := Int.eq_ofNat_of_zero_le hi0
                    have htg : tgt j (op, ⟨a5, b6, c5, (q : Int)⟩) = j + 1 + q := by unfold tgt; simp only [Int.toNat_natCast]
                    rw [htg] at HP HN HR
                    by_cases hqn : j + 1 + q ≤ k
                    · have hjt : isJ (op, ⟨a5, b6, c5, (q : Int)⟩) = true ∧ j + 1 + q ≤ ps.length := ⟨hJ, by omega⟩
                      obtain ⟨w0, mid, l9, hws, hmid, hfl, hpre⟩ := HW.out hJ
                      have hLe := HN.out hjt
                      have hRt := (HR.out hJ hjt.2).out
                      have hnc := (hm8.cell (j + 1 + q)).trans (num2_at ps (k + 1) (j + 1 + q) hjt.2)
                      rw [if_pos hRt, if_pos (by omega)] at hnc
                      have hcl := cnt_le ps (j + 1 + q + 1)
                      have hcs : cnt ps (j + 1 + q + 1) = cnt ps (j + 1 + q) + 1 := by rw [cnt_succ, if_pos hRt]
                      obtain ⟨IT, hIT⟩ : ∃ X, (⟨(Lib.itoa ((cnt ps (j + 1 + q + 1) : Nat) : Int)).toArray⟩ : ByteArray) = X := ⟨_, rfl⟩
                      obtain ⟨Z1, hZ1⟩ : ∃ X, mk (flat w0 mid) ++ ⟨#[32, 108]⟩ = X := ⟨_, rfl⟩
                      have hZ2 : Z1 ++ IT = L := by
                        rw [hLe, ← hZ1, ← hIT, ← hpre]
                        unfold nameOf
                        rw [hcs, show (⟨#[32, 108]⟩ : ByteArray) = mk [32, 108] from rfl, show (⟨(Lib.itoa ((cnt ps (j + 1 + q) + 1 : Nat) : Int)).toArray⟩ : ByteArray) = mk (Lib.itoa ((cnt ps (j + 1 + q) + 1 : Nat) : Int)) from rfl, mk_append, mk_append]
                        congr 1
                        simp
                      have hz1s : Z1.size ≤ 114 := by
                        have := congrArg ByteArray.size hZ2
                        rw [ByteArray.size_append] at this
                        omega
                      have hits : IT.size ≤ 114 := by
                        have := congrArg ByteArray.size hZ2
                        rw [ByteArray.size_append] at this
                        omega
                      have hT : ((j : Int) + 1 + (q : Int)).toNat = j + 1 + q := by omega
                      have HWS := Lib.hid hws
                      have HFL := Lib.hid hfl
                      have HZ := Lib.hid (show (∀ i, mid.length ≤ i → mk (flat w0 (mid.take i)) = mk (flat w0 mid)) by
                        intro i hi
                        rw [List.take_of_length_le hi])
                      have HITE := Lib.hid hIT
                      clear hws hfl hpre hLe hRt hcs hjt hJ hyj hsv htg HW HN HR HP hIT
                      obtain ⟨cn, hcn⟩ : ∃ cn, cnt ps (j + 1 + q + 1) = cn := ⟨_, rfl⟩
                      rw [hcn] at hnc hcl HITE
                      clear hcn
                      go_wp2_with fail
                      refine (r_Words S (by omega) _).mono ?_
                      rintro e w3 ⟨A3, n3, c3, rfl, hst, hn3, hb9⟩
                      rw [HWS.out] at hst
                      have hsl := hst.1
                      rw [List.length_map, List.length_cons, List.length_append, List.length_singleton] at hsl
                      obtain ⟨g3, o3', rfl, hg3, hcs3⟩ := hst.2 (by omega)
                      have hz0 : w3.cell? ⟨g3, o3', none⟩ = some (.string (mk w0)) := hcs3 0 (mk w0) rfl
                      have hnd := (hb9.cell (p := ⟨w.heap.size, j + 1 + q, none⟩) (by have := hm8.lt; exact this)).trans hnc
                      have hm9 := hm8.below hb9 hm8.lt
                      have hb10 := below_trans2 hb8 hb9
                      have HC3 := Lib.hid hcs3
                      clear hnc hm8 hb8 hb9 hst hcs3 hn3
                      subst hsl
                      go_wp2_with fail
                      go_loopw [13, 18] (fun sv iv wq => ∃ i : Nat, i ≤ mid.length ∧ iv = .int .i64 ((i : Int) + 1) ∧ sv = .string (mk (flat w0 (mid.take i))) ∧ w3 = wq) (fun _ iv _ => mid.length + 1 - (intOf iv).toNat)
                      case atStart => exact ⟨0, by omega, rfl, by simp [flat], rfl⟩
                      case round =>
                        obtain ⟨i, hi, rfl, rfl, hw3⟩ := hrel
                        subst hw3
                        have hzs : (mk (flat w0 (mid.take i))).size ≤ 60 := by rw [mk_len]; exact HFL.out i
                        by_cases him : i < mid.length
                        · obtain ⟨y, hy⟩ : ∃ y, mid[i]? = some y := ⟨_, List.getElem?_eq_getElem him⟩
                          have hyc := HC3.out (i + 1) (mk y) (by rw [List.map_cons, List.getElem?_cons_succ, List.getElem?_map, List.getElem?_append_left him, hy]; rfl)
                          have htk : flat w0 (mid.take (i + 1)) = flat w0 (mid.take i) ++ 32 :: y := by
                            rw [List.take_add_one, hy]
                            simp [flat]
                          have hzn : (mk (flat w0 (mid.take (i + 1)))).size ≤ 60 := by rw [mk_len]; exact HFL.out (i + 1)
                          obtain ⟨F0, hF0⟩ : ∃ X, mk (flat w0 (mid.take i)) = X := ⟨_, rfl⟩
                          obtain ⟨F1, hF1⟩ : ∃ X, F0 ++ ⟨#[32]⟩ = X := ⟨_, rfl⟩
                          obtain ⟨F3, hF3⟩ : ∃ X, mk y = X := ⟨_, rfl⟩
                          have hF2 : F1 ++ F3 = mk (flat w0 (mid.take (i + 1))) := by
                            rw [htk, ← hF3, ← hF1, ← hF0, show (⟨#[32]⟩ : ByteArray) = mk [32] from rfl, mk_append, mk_append]
                            simp
                          obtain ⟨F2, hF4⟩ : ∃ X, mk (flat w0 (mid.take (i + 1))) = X := ⟨_, rfl⟩
                          rw [hF4] at hF2 hzn
                          rw [hF0] at hzs ⊢
                          rw [hF3] at hyc
                          have hf1 : F1.size ≤ 60 := by
                            have := congrArg ByteArray.size hF2
                            rw [ByteArray.size_append] at this
                            omega
                          have hf3 : F3.size ≤ 60 := by
                            have := congrArg ByteArray.size hF2
                            rw [ByteArray.size_append] at this
                            omega
                          have HF4 := Lib.hid hF4
                          have hT1 : ((i : Int) + 1).toNat = i + 1 := by omega
                          clear hF4 hF0 hF3 htk hy hnd hz0 hm9 hb10
                          go_wp2_with fail
                          go_roundw
                          case rel => exact ⟨i + 1, by omega, by go_num, by rw [HF4.out], by trivial⟩
                          case measure => simp [intOf]; omega
                        · have hze := HZ.out i (by omega)
                          rw [hze] at hzs ⊢
                          clear hze hz0
                          have kit := a_itoa cn (by omega) (by omega) _ (h.old (.of_below hb10))
                          rw [HITE.out] at kit
                          have KIT := Lib.hid kit
                          clear kit
                          go_wp2_with fail
                          refine (KIT.out).mono ?_
                          rintro e w4 ⟨rfl, hb11⟩
                          have hm10 := hm9.below hb11 hm9.lt
                          have hb12 := below_trans2 hb10 hb11
                          clear hnd hm9 hb10 hb11 KIT
                          go_wp2_with fail
                          (refine ⟨?_, ?measure⟩; (repeat apply Exists.intro); refine ⟨?rel, rfl⟩)
                          case rel => exact ⟨j + 1, by omega, by go_num, by rw [HX2.out], hm10, hb12⟩
                          case measure => simp [intOf]; omega
                    · have hls := HP.out (fun hh => by have := hh.2; omega)
                      subst hls
                      have hqz : ¬ ((j : Int) + 1 + (q : Int) ≤ (k : Int)) := by omega
                      clear hsv hyj hJ hi0 htg HP HN HR HW
                      go_wp2_with fail
                      (refine ⟨?_, ?measure⟩; (repeat apply Exists.intro); refine ⟨?rel, rfl⟩)
                      case rel => exact ⟨j + 1, by omega, by go_num, by rw [HX2.out], hm8, hb8⟩
                      case measure => simp [intOf]; omega
                · obtain rfl : j = k := by omega
                  have hfin : Hid (X1 = mk (disA ps).1 ∧ (disA ps).2 = 0) := Lib.hid (by
                    rw [HV.out, ← HX1.out]
                    refine ⟨?_, rfl⟩
                    show _ = mk (disV ps)
                    unfold disV
                    rw [hl, linesTo_succ]
                    have : insLines ps j = [] := by
                      unfold insLines
                      rw [List.getElem?_eq_none (by omega)]
                    rw [this, List.append_nil])
                  clear hll hlab
                  go_wp2_with fail
                  go_ret2
                  exact ⟨by rw [← hfin.out.1, hfin.out.2]; rfl, hb6⟩
end Go.Proofs.YtcplhochgngedaaGreatDoor.RfE
