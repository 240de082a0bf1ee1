/-
  Contracts of the program's Disassemble, part 1: a slice of instructions, target, the names' map, writeLabel, format.
-/
import Derived.Test.YtcplhochgngedaaGreatDoorAsmF
import Derived.Test.YtcplhochgngedaaGreatDoorAsmT
import Derived.Test.YtcplhochgngedaaGreatDoorBld
namespace Go.Proofs.YtcplhochgngedaaGreatDoor.DisA
open Go.ChangeShapes Go.WideShapes Go.ChangeAt Go.RowKit
open PlainT IsaE IsaS BlkW IsaA IsaB IsaF IsaP IsaQ IsaX IsaL AsmS AsmA AsmB IsaR MapW AsmC AsmE AsmF AsmT Bld
set_option linter.unusedVariables false
set_option maxHeartbeats 1000000

abbrev insV (x : In) : Value := ins x.1 x.2.a x.2.b x.2.c x.2.i
/-- All five numbers are machine integers. -/
def OkI (x : In) : Prop := InInt x.1 ∧ InInt x.2.a ∧ InInt x.2.b ∧ InInt x.2.c ∧ InInt x.2.i
/-- The target of the instruction at j, or -1. -/
def tgtZ (x : In) (j : Nat) : Int := if isJ x = true then (j : Int) + 1 + x.2.i else -1
theorem isJ_op {x : In} (h : isJ x = true) : chkI x = 0 ∧ (x.1 = 4 ∨ x.1 = 5 ∨ x.1 = 6) := by
  unfold isJ skipsB at h
  simp only [Bool.and_eq_true, Bool.or_eq_true, decide_eq_true_eq] at h
  exact ⟨h.1, h.2⟩
theorem isJ_imm {x : In} (h : isJ x = true) : 0 ≤ x.2.i ∧ x.2.i ≤ 64 := by
  obtain ⟨h0, h1⟩ := isJ_op h
  obtain ⟨op, a, b, c, i⟩ := x
  unfold chkI at h0
  simp only at h0 h1 ⊢
  have key : ∀ k : Nat, k < 18 → 0 ≤ loI k ∧ hiI k ≤ 64 → chk k a b c i = 0 → 0 ≤ i ∧ i ≤ 64 := fun k hk hb hc => by
    by_cases hi : i < loI k ∨ hiI k < i
    · rw [chk_imm k hk a b c i hi] at hc
      cases hc
    · omega
  rcases h1 with rfl | rfl | rfl
  · exact key 4 (by decide) (by decide) h0
  · exact key 5 (by decide) (by decide) h0
  · exact key 6 (by decide) (by decide) h0
theorem text_pre {x : In} (h : isJ x = true) : textI x = pre x ++ Lib.itoa x.2.i := by
  obtain ⟨h0, h1⟩ := isJ_op h
  obtain ⟨op, a, b, c, i⟩ := x
  unfold chkI at h0
  simp only at h0 h1 ⊢
  unfold textI formatV pre
  simp only
  rw [if_pos h0]
  have hr : (operB 97 a).data.toList = 114 :: Lib.itoa a := rfl
  have hi : (operB 110 i).data.toList = Lib.itoa i := rfl
  rcases h1 with rfl | rfl | rfl
  · have e : wordsV 4 a b c i = [mk sJump, operB 110 i] := rfl
    show bts (joinB (wordsV 4 a b c i)) = _
    rw [e, if_pos rfl]
    unfold joinB Lib.join
    simp only [List.map_cons, List.map_nil, hi, List.intercalate, List.intersperse]
    simp [bts, mk]
  · have e : wordsV 5 a b c i = [mk sZero, operB 97 a, operB 110 i] := rfl
    show bts (joinB (wordsV 5 a b c i)) = _
    rw [e, if_neg (by decide), if_pos rfl]
    unfold joinB Lib.join
    simp only [List.map_cons, List.map_nil, hi, hr, List.intercalate, List.intersperse]
    simp [bts, mk]
  · have e : wordsV 6 a b c i = [mk sNonzero, operB 97 a, operB 110 i] := rfl
    show bts (joinB (wordsV 6 a b c i)) = _
    rw [e, if_neg (by decide), if_neg (by decide)]
    unfold joinB Lib.join
    simp only [List.map_cons, List.map_nil, hi, hr, List.intercalate, List.intersperse]
    simp [bts, mk]
theorem bang_at (l : List UInt8) (j : Nat) : (mk l).data[j]! = l.getD j 0 := by
  show l.toArray[j]! = _
  by_cases h : j < l.length
  · rw [getElem!_pos _ _ (by simpa using h)]
    simp [List.getD_eq_getElem?_getD, List.getElem?_eq_getElem h]
  · rw [getElem!_neg _ _ (by simpa using h)]
    rw [List.getD_eq_getElem?_getD, List.getElem?_eq_none (by omega)]
    rfl
theorem last_space (p d : List UInt8) (hd : ∀ c ∈ d, c.toNat ≠ 32) : Lib.lastIndexByte (mk (p ++ 32 :: d)) 32 = p.length := by
  unfold Lib.lastIndexByte
  have hs : (mk (p ++ 32 :: d)).size = p.length + (d.length + 1) := by show (p ++ 32 :: d).toArray.size = _; simp
  rcases Lib.lastIdx_spec (mk (p ++ 32 :: d)) 32 (mk (p ++ 32 :: d)).size with ⟨_, h⟩ | ⟨i, hi, he, hc, h⟩
  · exfalso
    refine h p.length (by omega) ?_
    rw [bang_at, List.getD_eq_getElem?_getD, List.getElem?_append_right (Nat.le_refl _), Nat.sub_self]
    rfl
  · rw [he]
    have : i = p.length := by
      rcases Nat.lt_trichotomy i p.length with h1 | h1 | h1
      · exfalso
        refine h p.length h1 (by omega) ?_
        rw [bang_at, List.getD_eq_getElem?_getD, List.getElem?_append_right (Nat.le_refl _), Nat.sub_self]
        rfl
      · exact h1
      · exfalso
        rw [hs] at hi
        rw [bang_at, List.getD_eq_getElem?_getD, List.getElem?_append_right (by omega)] at hc
        obtain ⟨k, hk⟩ : ∃ k, i - p.length = k + 1 := ⟨i - p.length - 1, by omega⟩
        have hkd : k < d.length := by omega
        rw [hk, List.getElem?_cons_succ, List.getElem?_eq_getElem hkd] at hc
        exact hd _ (List.getElem_mem hkd) (by
          have hc' : ((d[k].toNat : Nat) : Int) = 32 := hc
          omega)
    omega
theorem a_target (x : In) (j : Nat) (hj : j ≤ 64) (v : Int) (hv : tgtZ x j = v) (w : World) (h : Env w) : Calls Tryz.prog 39 #[insV x, .int .i64 j] w fun e w' => e = .returned (.int .i64 v) ∧ Below w.heap.size w w' := by
  obtain ⟨op, a, b, c, i⟩ := x
  by_cases hJ : isJ (op, ⟨a, b, c, i⟩) = true
  · obtain ⟨h0, h1⟩ := isJ_imm hJ
    simp only at h0 h1
    have hv2 : skipsV op a b c i = i := by unfold skipsV; unfold isJ at hJ; simp only at hJ; rw [if_pos hJ]
    have hv3 : v = (j : Int) + 1 + i := by rw [← hv]; unfold tgtZ; rw [if_pos hJ]
    subst hv3
    unfold isJ at hJ
    simp only at hJ
    have HJ := Lib.hid hJ
    have HV := Lib.hid hv2
    clear hJ hv2 hv
    go_enter Tryz.func39, Tryz.ntmps39
    go_wp2_with (go_at_call 67; refine (a_skips_v op a b c i _ _ HJ.out HV.out _ (h.alloc _)).mono ?_; rintro e w1 ⟨rfl, hb1⟩)
    go_ret
    exact ⟨rfl, below_trans2 (below_new _ _) hb1⟩
  · have hF : isJ (op, ⟨a, b, c, i⟩) = false := by simpa using hJ
    have hv3 : v = -1 := by rw [← hv]; unfold tgtZ; rw [hF]; rfl
    subst hv3
    have hv2 : skipsV op a b c i = 0 := by unfold skipsV; unfold isJ at hF; simp only at hF; rw [hF]; rfl
    unfold isJ at hF
    simp only at hF
    have HJ := Lib.hid hF
    have HV := Lib.hid hv2
    clear hF hv2 hv hJ
    go_enter Tryz.func39, Tryz.ntmps39
    go_wp2_with (go_at_call 67; refine (a_skips_v op a b c i _ _ HJ.out HV.out _ (h.alloc _)).mono ?_; rintro e w1 ⟨rfl, hb1⟩)
    go_ret
    exact ⟨rfl, below_trans2 (below_new _ _) hb1⟩
theorem extract_take (s : ByteArray) (k : Nat) : s.extract 0 k = mk ((bts s).take k) := by
  apply ByteArray.ext
  unfold mk bts
  apply Array.toList_inj.1
  rw [ByteArray.data_extract, Array.toList_extract]
  simp [List.extract]
theorem pre_ends {x : In} : ∃ p, pre x = p ++ [32] := by
  unfold pre
  split
  · exact ⟨_, rfl⟩
  · split
    · exact ⟨_, rfl⟩
    · exact ⟨_, rfl⟩
theorem a_fmt_plain (x : In) (hx : OkI x) (w : World) (h : Env w) : Calls Tryz.prog 38 #[insV x, .string (mk [])] w fun e w' => e = .returned (.string (mk (textI x))) ∧ Below w.heap.size w w' := by
  obtain ⟨op, a, b, c, i⟩ := x
  obtain ⟨o1, o2, o3, o4, o5⟩ := hx
  simp only at o1 o2 o3 o4 o5
  have ht : mk (textI (op, ⟨a, b, c, i⟩)) = formatV op a b c i := mk_bts _
  rw [ht]
  clear ht
  have he : (mk []).toList.isEmpty = true := by rw [ByteArray.toList_eq]; rfl
  go_enter Tryz.func38, Tryz.ntmps38
  go_wp2_with (go_at_call 65; refine (a_format op a b c i o2 o3 o4 o5 _ (h.alloc _)).mono ?_; rintro e w1 ⟨rfl, hb1⟩)
  go_ret
  exact ⟨rfl, below_trans2 (below_new _ _) hb1⟩
theorem mk_append (a b : List UInt8) : mk a ++ mk b = mk (a ++ b) := by
  apply ByteArray.ext
  simp [mk]
theorem text_len {x : In} (hx : OkI x) (h : chkI x = 0) : (textI x).length ≤ 92 := by
  obtain ⟨op, a, b, c, i⟩ := x
  obtain ⟨o1, o2, o3, o4, o5⟩ := hx
  unfold chkI at h
  simp only at o1 o2 o3 o4 o5 h
  have hr : 0 ≤ op ∧ op < 18 := by
    unfold chk at h
    by_cases hh : 0 ≤ op ∧ op < 18
    · exact hh
    · rw [if_neg hh] at h
      cases h
  obtain ⟨k, rfl⟩ := Int.eq_ofNat_of_zero_le hr.1
  have := text_size (k := k) (by omega) o2 o3 o4 o5 h
  unfold textI
  rw [bytes_len]
  exact this
theorem a_fmt_named (x : In) (hx : OkI x) (hJ : isJ x = true) (nm : List UInt8) (hn0 : nm ≠ []) (hn : nm.length ≤ 30) (w : World) (h : Env w) : Calls Tryz.prog 38 #[insV x, .string (mk nm)] w fun e w' => e = .returned (.string (mk (pre x ++ nm))) ∧ Below w.heap.size w w' := by
  obtain ⟨p, hp⟩ := pre_ends (x := x)
  have ht := text_pre hJ
  obtain ⟨hi0, hi1⟩ := isJ_imm hJ
  have hd := itoa_no_space x.2.i
  have hl : Lib.lastIndexByte (mk (textI x)) 32 = p.length := by rw [ht, hp, List.append_assoc]; exact last_space p _ hd
  have hr : mk ((textI x).take (p.length + 1)) ++ mk nm = mk (pre x ++ nm) := by
    rw [ht, hp, mk_append, List.take_append_of_le_length (by simp), List.take_of_length_le (by simp)]
  have hb : (mk (textI x)).size ≤ 92 := by rw [mk_len]; exact text_len hx (isJ_op hJ).1
  have hb2 : p.length + 1 ≤ (mk (textI x)).size := by rw [mk_len, ht, hp]; simp
  have hc := str_nonempty hn0
  have hx2 : (mk (textI x)).extract 0 (p.length + 1) = mk ((textI x).take (p.length + 1)) := by rw [extract_take, bts_mk]
  have ht3 : (mk ((textI x).take (p.length + 1))).size ≤ 92 := by rw [mk_len, List.length_take]; rw [mk_len] at hb; omega
  have hn2 : (mk nm).size ≤ 30 := by rw [mk_len]; exact hn
  obtain ⟨op, a, b, c, i⟩ := x
  obtain ⟨o1, o2, o3, o4, o5⟩ := hx
  simp only at o1 o2 o3 o4 o5
  have hf : formatV op a b c i = mk (textI (op, ⟨a, b, c, i⟩)) := (mk_bts _).symm
  have HF := Lib.hid hf
  have HL := Lib.hid hl
  clear hf ht hp hJ hn hd hi0 hi1 hl
  generalize textI (op, ⟨a, b, c, i⟩) = t at *
  generalize pre (op, ⟨a, b, c, i⟩) = pr at *
  generalize p.length = q at *
  go_enter Tryz.func38, Tryz.ntmps38
  go_wp2_with (first | (go_at_call 65; refine (a_format op a b c i o2 o3 o4 o5 _ (h.alloc _)).mono ?_; rintro e w1 ⟨rfl, hb1⟩; rw [HF.out]) | (go_at_call 66; refine (Tryz.strings_LastIndexByte _ 32 (by omega) _).mono ?_; rintro e w2 ⟨rfl, rfl⟩; rw [HL.out]))
  go_ret
  exact ⟨rfl, below_trans2 (below_new _ _) hb1⟩
end Go.Proofs.YtcplhochgngedaaGreatDoor.DisA
