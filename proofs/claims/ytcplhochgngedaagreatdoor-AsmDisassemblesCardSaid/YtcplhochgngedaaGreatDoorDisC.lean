/-
  Contracts of the program's Disassemble, part 3: writeLabel, Disassemble.
-/
import Derived.Test.YtcplhochgngedaaGreatDoorDisB
import Derived.Deep.RegionHeld3
namespace Go.Proofs.YtcplhochgngedaaGreatDoor.DisC
open Go.ChangeShapes Go.WideShapes Go.ChangeAt Go.RowKit
open PlainT IsaE IsaS BlkW IsaA IsaB IsaF IsaP IsaQ IsaX IsaL AsmA AsmB IsaR MapW AsmC AsmE AsmF AsmT Bld DisA DisB
open AsmS hiding nameC
set_option linter.unusedVariables false
set_option maxHeartbeats 1000000

theorem key_z (z : Int) (h0 : -1 ≤ z) (h1 : z ≤ 1000) : keyOf Tryz.prog 3 (.int .i64 z) = some (.int .i64 z) := Go.Maps.keyOf_int_mk Tryz.underlying3 (WalkArith.wf_i64 (by omega))
theorem R_le {p : List In} {j : Nat} (h : AsmT.R p j = true) : j ≤ p.length := by
  unfold AsmT.R AsmT.mark at h
  simp only [Bool.and_eq_true, decide_eq_true_eq] at h
  exact h.1
theorem nameC_hit {p : List In} {j : Nat} (h : AsmT.R p j = true) : nameC p (p.length + 1) (.int .i64 (j : Int)) = some (.string (nameOf p j)) := by
  have := R_le h
  unfold nameC
  simp only [Int.toNat_natCast]
  rw [if_pos ⟨by omega, by omega, h⟩]
theorem nameC_no {p : List In} {z : Int} (h : z < 0 ∨ AsmT.R p z.toNat = false) : nameC p (p.length + 1) (.int .i64 z) = none := by
  unfold nameC
  simp only
  rw [if_neg]
  rintro ⟨h0, _, h2⟩
  rcases h with h | h
  · omega
  · rw [h] at h2; cases h2
theorem nameOf_len (p : List In) (j : Nat) (hp : j ≤ 65) : (nameOf p j).length ≤ 22 := by
  unfold nameOf
  have := cnt_le p j
  have := Lib.itoa_length_le ((cnt p j + 1 : Nat) : Int) (by omega) (by omega)
  simp only [List.length_cons]
  omega
set_option maxRecDepth 100000 in
theorem a_writeLabel (B bb b N : Nat) (l : List UInt8) (ps : List In) (j : Nat) (hj : j ≤ 64) (hl : l.length ≤ 1000000) (w : World) (hH : HoldsB B bb l w) (hM : OwnM Tryz.prog 3 9 w b N (nameC ps (ps.length + 1))) :
    Calls Tryz.prog 37 #[.pointer (some ⟨bb, 0, none⟩), .map (some b), .int .i64 j] w fun e w' => e = .returned (.tuple #[]) ∧ HoldsB B bb (l ++ lfs (labelLines ps j)) w' ∧ Below B w w' ∧ KeepI w w' := by
  cases hR : AsmT.R ps j with
  | false =>
    have hrun := hM.miss_str true (t := 75) keyed_i Tryz.underlying75 Tryz.underlying9 (zero_str w) (key_z (j : Int) (by omega) (by omega)) trivial (nameC_no (.inr (by simpa using hR)))
    have e : l ++ lfs (labelLines ps j) = l := by unfold labelLines; rw [hR]; simp [lfs]
    rw [e]
    simp only [if_pos rfl] at hrun
    go_enter Tryz.func37, Tryz.ntmps37
    go_wp2
    go_end0
    exact ⟨rfl, hH, Below.refl _ _, KeepI.refl _⟩
  | true =>
    have hrun := hM.hit_str true (t := 75) keyed_i Tryz.underlying75 Tryz.underlying9 (zero_str w) (key_z (j : Int) (by omega) (by omega)) trivial (nameC_hit hR)
    have hlen := nameOf_len ps j (by omega)
    have e : lfs (labelLines ps j) = nameOf ps j ++ [58, 10] := by unfold labelLines; rw [if_pos hR]; simp [lfs]
    rw [e]
    simp only [if_pos rfl] at hrun
    have hcat : (⟨(nameOf ps j).toArray⟩ : ByteArray) ++ ⟨#[58, 10]⟩ = mk (nameOf ps j ++ [58, 10]) := mk_append (nameOf ps j) [58, 10]
    have hsz : (⟨(nameOf ps j).toArray⟩ : ByteArray).size ≤ 22 := by rw [show (⟨(nameOf ps j).toArray⟩ : ByteArray) = mk (nameOf ps j) from rfl, mk_len]; exact hlen
    clear e
    generalize nameOf ps j = nm at *
    go_enter Tryz.func37, Tryz.ntmps37
    go_wp2_with fail
    refine (hH.write (nm ++ [58, 10]) (by rw [List.length_append, List.length_cons, List.length_singleton]; omega)).mono ?_
    rintro e w1 ⟨⟨n, rfl⟩, h1, h2, h3⟩
    go_wp2
    go_end0
    exact ⟨rfl, h1, h2, h3⟩

/-- What is held while a line is written: the instruction's box, the names. -/
def HD (W : World) (g : Nat) (op a b c i : Int) (m N : Nat) (C : Lit → Option Lit) (w : World) : Prop := Mem w g 40 (boxed op a b c i) ∧ Below W.heap.size W w ∧ OwnM Tryz.prog 3 9 w m N C
/-- The look-up of z gives nm. -/
def Finds (C : Lit → Option Lit) (z : Int) (nm : List UInt8) : Prop := ∀ (w : World) (m N : Nat), OwnM Tryz.prog 3 9 w m N C → (Instr.lookup 75 (.map (some m)) (.int .i64 z) false).run Tryz.prog w = .ok (.string (mk nm)) w
abbrev HeldD (W : World) (g : Nat) (op a b c i : Int) (m N : Nat) (C : Lit → Option Lit) (z : Int) (nm : List UInt8) (w : World) : Prop :=
  w.cell? ⟨g, 0, none⟩ = some (.int .i64 op) ∧ w.cell? ⟨g, 1, none⟩ = some (.int .i64 a) ∧ w.cell? ⟨g, 2, none⟩ = some (.int .i64 b) ∧ w.cell? ⟨g, 3, none⟩ = some (.int .i64 c) ∧ w.cell? ⟨g, 4, none⟩ = some (.int .i64 i) ∧
    (Instr.lookup 75 (.map (some m)) (.int .i64 z) false).run Tryz.prog w = .ok (.string (mk nm)) w ∧ HD W g op a b c i m N C w
section
variable {W w w' : World} {g m N : Nat} {op a b c i z : Int} {C : Lit → Option Lit} {nm : List UInt8}
theorem hd_of (hz : Finds C z nm) (h : HD W g op a b c i m N C w) : HeldD W g op a b c i m N C z nm w := by
  obtain ⟨z0, z1, z2, z3, z4⟩ := boxed_cells h.1
  exact ⟨z0, z1, z2, z3, z4, hz w m N h.2.2, h⟩
theorem hd_drew (hz : Finds C z nm) (h : HD W g op a b c i m N C w) : HeldD W g op a b c i m N C z nm w.drew :=
  hd_of hz ⟨h.1, h.2.1.trans ((drew_below w).mono h.2.1.size), h.2.2⟩
theorem hd_keep (hz : Finds C z nm) (h : HeldD W g op a b c i m N C z nm w) (hb : Below w.heap.size w w') : HeldD W g op a b c i m N C z nm w' := by
  obtain ⟨_, _, _, _, _, _, h1, h2, h3⟩ := h
  exact hd_of hz ⟨h1.below hb h1.lt, below_trans2 h2 hb, h3.old (.of_below hb)⟩
theorem hd_write {B : Nat} (hW : W.heap.size ≤ B) (hm : m < B) (hz : Finds C z nm) (h : HeldD W g op a b c i m N C z nm w) (hb : Below B w w') (hk : KeepI w w') : HeldD W g op a b c i m N C z nm w' := by
  obtain ⟨_, _, _, _, _, _, h1, h2, h3⟩ := h
  exact hd_of hz ⟨hk _ _ h1, h2.trans (hb.mono hW), h3.of_block (hb.block m hm)⟩
theorem hd_env (hE : Env W) (h : HeldD W g op a b c i m N C z nm w) : Env w := hE.below h.2.2.2.2.2.2.2.1
end
theorem finds_hit {p : List In} {j : Nat} (hj : j ≤ 65) (h : AsmT.R p j = true) : Finds (nameC p (p.length + 1)) (j : Int) (nameOf p j) := fun w m N hM => by
  have hrun := hM.hit_str false (t := 75) keyed_i Tryz.underlying75 Tryz.underlying9 (zero_str w) (key_z (j : Int) (by omega) (by omega)) trivial (nameC_hit h)
  exact hrun
theorem finds_no {p : List In} {z : Int} (h0 : -1 ≤ z) (h1 : z ≤ 1000) (h : z < 0 ∨ AsmT.R p z.toNat = false) : Finds (nameC p (p.length + 1)) z [] := fun w m N hM => by
  have hrun := hM.miss_str false (t := 75) keyed_i Tryz.underlying75 Tryz.underlying9 (zero_str w) (key_z z h0 h1) trivial (nameC_no h)
  exact hrun
theorem tgt_z {x : In} {j : Nat} (h : isJ x = true) : tgtZ x j = ((tgt j x : Nat) : Int) := by
  have := isJ_imm h
  unfold tgtZ tgt
  rw [if_pos h]
  omega
theorem R_of {p : List In} {j : Nat} {x : In} (hx : p[j]? = some x) (h : isJ x = true) (ht : tgt j x ≤ p.length) : AsmT.R p (tgt j x) = true := by
  unfold AsmT.R AsmT.mark
  rw [decide_eq_true ht, Bool.true_and, List.any_eq_true]
  refine ⟨j, List.mem_range.2 (List.getElem?_eq_some_iff.1 hx).1, ?_⟩
  rw [hits_tgt hx, tgt_z h]
  simp
/-- What a line's jump is called, and how it is written. -/
theorem line_key {p : List In} {j : Nat} {x : In} (hx : p[j]? = some x) (hp : p.length ≤ 64) (hO : OkI x) (hc : chkI x = 0) : ∃ (z : Int) (nm : List UInt8), tgtZ x j = z ∧ Finds (nameC p (p.length + 1)) z nm ∧
    ∀ w, Env w → Calls Tryz.prog 38 #[insV x, .string (mk nm)] w fun e w' => e = .returned (.string (mk (lineOf p j x))) ∧ Below w.heap.size w w' := by
  have hj : j < p.length := (List.getElem?_eq_some_iff.1 hx).1
  by_cases h : isJ x = true ∧ tgt j x ≤ p.length
  · refine ⟨_, _, tgt_z h.1, finds_hit (by omega) (R_of hx h.1 h.2), fun w hE => ?_⟩
    have e : lineOf p j x = pre x ++ nameOf p (tgt j x) := by unfold lineOf; rw [if_pos h]
    rw [e]
    have := nameOf_len p (tgt j x) (by omega)
    exact a_fmt_named x hO h.1 _ (by unfold nameOf; simp) (by omega) w hE
  · have e : lineOf p j x = textI x := by unfold lineOf; rw [if_neg h]
    have hb : -1 ≤ tgtZ x j ∧ tgtZ x j ≤ 1000 ∧ (tgtZ x j < 0 ∨ AsmT.R p (tgtZ x j).toNat = false) := by
      by_cases hJ : isJ x = true
      · have := isJ_imm hJ
        rw [tgt_z hJ]
        refine ⟨by omega, by unfold tgt; omega, .inr ?_⟩
        rw [Int.toNat_natCast]
        cases hR : AsmT.R p (tgt j x) with
        | false => rfl
        | true => exact absurd ⟨hJ, R_le hR⟩ h
      · have : tgtZ x j = -1 := by unfold tgtZ; rw [if_neg hJ]
        rw [this]
        exact ⟨by omega, by omega, .inl (by omega)⟩
    refine ⟨_, [], rfl, finds_no hb.1 hb.2.1 hb.2.2, fun w hE => ?_⟩
    rw [e]
    exact a_fmt_plain x hO w hE
/-- The error of the first invalid instruction, or 0. -/
def firstErr : List In → Int
  | [] => 0
  | x :: r => if chkI x = 0 then firstErr r else chkI x
def disA (ps : List In) : List UInt8 × Int := if 64 < ps.length then ([], 3) else if firstErr ps = 0 then (disV ps, 0) else ([], firstErr ps)
theorem firstErr_drop {ps : List In} {k : Nat} {x : In} (h : ps[k]? = some x) : firstErr (ps.drop k) = if chkI x = 0 then firstErr (ps.drop (k + 1)) else chkI x := by
  obtain ⟨hk, rfl⟩ := List.getElem?_eq_some_iff.1 h
  rw [List.drop_eq_getElem_cons hk]
  rfl
theorem firstErr_all : ∀ {ps : List In}, firstErr ps = 0 → ∀ x ∈ ps, chkI x = 0
  | [], _, x, hx => by cases hx
  | y :: r, h, x, hx => by
    unfold firstErr at h
    by_cases h0 : chkI y = 0
    · rw [if_pos h0] at h
      rcases List.mem_cons.1 hx with rfl | hx
      · exact h0
      · exact firstErr_all h x hx
    · rw [if_neg h0] at h
      exact absurd h h0
theorem label_len (ps : List In) (j : Nat) (hj : j ≤ 65) : (lfs (labelLines ps j)).length ≤ 24 := by
  unfold labelLines
  have := nameOf_len ps j hj
  split
  · rw [lfs_one]; simp; omega
  · simp [lfs]
theorem line_len {ps : List In} {j : Nat} {x : In} (hO : OkI x) (hc : chkI x = 0) (hp : ps.length ≤ 64) : (lineOf ps j x).length ≤ 114 := by
  unfold lineOf
  have ht := text_len hO hc
  split
  · rename_i h
    have hn := nameOf_len ps (tgt j x) (by omega)
    rw [text_pre h.1, List.length_append] at ht
    rw [List.length_append]
    omega
  · omega
theorem ins_len {ps : List In} {j : Nat} (hO : ∀ x ∈ ps, OkI x) (hc : ∀ x ∈ ps, chkI x = 0) (hp : ps.length ≤ 64) : (lfs (insLines ps j)).length ≤ 115 := by
  unfold insLines
  split
  · rename_i x hx
    have hm := List.mem_of_getElem? hx
    have := line_len (j := j) (hO x hm) (hc x hm) hp
    rw [lfs_one]; simp; omega
  · simp [lfs]
theorem lines_len {ps : List In} (hO : ∀ x ∈ ps, OkI x) (hc : ∀ x ∈ ps, chkI x = 0) (hp : ps.length ≤ 64) : ∀ k, k ≤ 65 → (lfs (linesTo ps k)).length ≤ 139 * k
  | 0, _ => by simp [linesTo, lfs]
  | k + 1, h => by
    have h1 := lines_len hO hc hp k (by omega)
    have h2 := label_len ps k (by omega)
    have h3 := ins_len (j := k) hO hc hp
    rw [linesTo_succ, lfs_append, lfs_append, List.length_append, List.length_append]
    omega

set_option maxRecDepth 100000 in
theorem a_disassemble (A : Option Addr) (n c : Nat) (ps : List In) (hc : n ≤ c) (hcm : c ≤ maxLen) (hO : ∀ x ∈ ps, OkI x) (w : World) (h : Env w) (hr : RowP w A n ps) :
    Calls Tryz.prog 15 #[.slice A n c] w fun e w' => e = .returned (.tuple #[.string (mk (disA ps).1), .int .i64 (disA ps).2]) ∧ Below w.heap.size w w' := by
  have hl := hr.1
  unfold maxLen at hcm
  by_cases hn : 64 < n
  · have hd : disA ps = ([], 3) := by unfold disA; rw [if_pos (by omega)]
    rw [hd]
    go_enter Tryz.func15, Tryz.ntmps15
    go_wp2
    go_ret2
    exact ⟨rfl, Below.refl _ _⟩
  · have hn' : n ≤ 64 := by omega
    go_enter Tryz.func15, Tryz.ntmps15
    go_wp2
    go_loopw [16] (fun i wr => ∃ k : Nat, k ≤ n ∧ i = .int .i64 k ∧ Hid (firstErr ps = firstErr (ps.drop k)) ∧ Below w.heap.size w wr) (fun i _ => n - (intOf i).toNat)
    case atStart => exact ⟨0, by omega, rfl, rfl, Below.refl _ _⟩
    case round =>
      obtain ⟨k, hk, rfl, hf, hb⟩ := hrel
      have hE := h.below hb
      have hR := hr.below hb
      by_cases hlt : k < n
      · obtain ⟨b, o, x, rfl, hb5, hx, d0, d1, d2, d3, d4⟩ := hR.at hlt
        have hst := firstErr_drop hx
        obtain ⟨op, a5, b6, c5, i5⟩ := x
        simp only at d0 d1 d2 d3 d4
        clear hx
        go_wp2_with fail
        refine (a_check_v (op := op) (a := a5) (b := b6) (c := c5) (i := i5) rfl _ (hE.alloc _)).mono ?_
        rintro e w1 ⟨rfl, hb1⟩
        have hb2 := below_trans2 hb (below_trans2 (below_new _ _) hb1)
        change firstErr (ps.drop k) = if chk op a5 b6 c5 i5 = 0 then firstErr (ps.drop (k + 1)) else chk op a5 b6 c5 i5 at hst
        by_cases h0 : chk op a5 b6 c5 i5 = 0
        · rw [if_pos h0] at hst
          have hf2 := Lib.hid (hf.out.trans hst)
          rw [h0]
          clear hst hf h0 hE hR hb1
          go_wp2
          go_round
          case rel => exact ⟨k + 1, by omega, by go_num, hf2, hb2⟩
          case measure => simp [intOf]; omega
        · rw [if_neg h0] at hst
          have hd := Lib.hid (show disA ps = ([], chk op a5 b6 c5 i5) by unfold disA; rw [if_neg (by omega), hf.out, hst, if_neg h0])
          generalize chk op a5 b6 c5 i5 = v at *
          clear hst hf hE hR hb1
          go_wp2
          go_ret2
          exact ⟨by rw [hd.out]; rfl, hb2⟩
      · obtain rfl : k = n := by omega
        have h0 : firstErr ps = 0 := by rw [hf.out, List.drop_of_length_le (by omega)]; rfl
        have HV := Lib.hid (show disA ps = (disV ps, 0) by unfold disA; rw [if_neg (by omega), if_pos h0])
        have HC := Lib.hid (firstErr_all h0)
        have HO := Lib.hid hO
        clear hf h0 hO
        go_wp2_with fail
        refine (a_names A k c ps hn' hc HO.out _ hE hR).mono ?_
        rintro e w1 ⟨b, N, rfl, hgb, hN, hM, hb1⟩
        have hbt := hM.lt
        have hb2 := below_trans2 hb hb1
        clear hE hR hb hb1
        have hF := HoldsB.fresh w1
        have hM2 := hM.alloc (.cells #[.pointer none, .slice none 0 0] 66)
        have hb3 := hb2.alloc hb2.size (.cells #[.pointer none, .slice none 0 0] 66)
        have hBw := hb2.size
        obtain ⟨B, hB⟩ : ∃ B, B = w1.heap.size := ⟨_, rfl⟩
        rw [← hB] at hF hbt hBw
        clear hM hb2
        go_wp2
        rw [← hB]
        clear hB
        go_loopw [30] (fun i wq => ∃ j : Nat, j ≤ k ∧ i = .int .i64 j ∧ HoldsB B B (lfs (linesTo ps j)) wq ∧ OwnM Tryz.prog 3 9 wq b N (nameC ps (k + 1)) ∧ Below w.heap.size w wq) (fun i _ => k - (intOf i).toNat)
        case atStart => exact ⟨0, by omega, rfl, hF, hM2, hb3⟩
        case round =>
          obtain ⟨j, hj, rfl, hH, hM, hbq⟩ := hrel
          clear hF hM2 hb3
          by_cases hlj : j < k
          · obtain ⟨b5, o, x, rfl, hb5, hx, d0, d1, d2, d3, d4⟩ := (hr.below hbq).at hlj
            obtain ⟨op, a5, b6, c5, i5⟩ := x
            simp only at d0 d1 d2 d3 d4
            have hx5 := List.mem_of_getElem? hx
            have hxO := HO.out _ hx5
            have hxC := HC.out _ hx5
            have hll := lines_len HO.out HC.out (by omega) j (by omega)
            have HX := Lib.hid hx
            have hMn := Mem.new wr 40 (boxed op a5 b6 c5 i5)
            have hMp : OwnM Tryz.prog 3 9 wr b N (nameC ps (ps.length + 1)) := by rw [hl]; exact hM
            have hbn := hbq.alloc hbq.size (.cells (boxed op a5 b6 c5 i5) 40)
            clear hx hx5
            go_wp2_with fail
            refine (a_writeLabel B B b N (lfs (linesTo ps j)) ps j (by omega) (by omega) _ (hH.alloc _) (hMp.alloc _)).mono ?_
            rintro e w2 ⟨rfl, hH2, hb2, hk2⟩
            have hm2 := hk2 _ _ hMn
            have hM2 : OwnM Tryz.prog 3 9 w2 b N (nameC ps (ps.length + 1)) := (hMp.alloc (.cells (boxed op a5 b6 c5 i5) 40)).of_block (hb2.block b hbt)
            have hb3 := hbn.trans (hb2.mono hBw)
            have hh : HD w wr.heap.size op a5 b6 c5 i5 b N (nameC ps (ps.length + 1)) w2 := ⟨hm2, hb3, hM2⟩
            clear hH hM hMn hMp hbn hb2 hk2 hm2 hM2 d0 d1 d2 d3 d4 hbq
            obtain ⟨z, nm, hz, hfi, hfm⟩ := line_key HX.out (by omega) hxO hxC
            have HZ := Lib.hid hz
            have HF := Lib.hid hfi
            have HM := Lib.hid hfm
            have hLn := line_len (j := j) hxO hxC (show ps.length ≤ 64 by omega)
            have hlab := label_len ps j (by omega)
            have heq := Lib.hid (show (lfs (linesTo ps j) ++ lfs (labelLines ps j)) ++ (lineOf ps j (op, ⟨a5, b6, c5, i5⟩) ++ [10]) = lfs (linesTo ps (j + 1)) by
              rw [linesTo_succ, lfs_append, lfs_append]
              have : insLines ps j = [lineOf ps j (op, ⟨a5, b6, c5, i5⟩)] := by unfold insLines; rw [HX.out]
              rw [this, lfs_one, List.append_assoc])
            have hsz : (mk (lineOf ps j (op, ⟨a5, b6, c5, i5⟩))).size ≤ 114 := by rw [mk_len]; exact hLn
            have hcat : mk (lineOf ps j (op, ⟨a5, b6, c5, i5⟩)) ++ ⟨#[10]⟩ = mk (lineOf ps j (op, ⟨a5, b6, c5, i5⟩) ++ [10]) := mk_append _ [10]
            have hLt : (lfs (linesTo ps j) ++ lfs (labelLines ps j)).length + (lineOf ps j (op, ⟨a5, b6, c5, i5⟩) ++ [10]).length ≤ 100000000 := by
              rw [List.length_append, List.length_append, List.length_singleton]
              omega
            have HLt := Lib.hid hLt
            have hno : ¬ (9223372036854775807 < (mk (lineOf ps j (op, ⟨a5, b6, c5, i5⟩))).size + 1) := by omega
            clear hz hfi hfm hxO hxC hLn hlab hLt hll
            generalize lineOf ps j (op, ⟨a5, b6, c5, i5⟩) = L at *
            generalize lfs (linesTo ps j) ++ lfs (labelLines ps j) = l0 at *
            go_wp2_with fail
            go_region_held3 (HeldD w wr.heap.size op a5 b6 c5 i5 b N (nameC ps (ps.length + 1)) z nm) (first | assumption | exact hd_drew HF.out hh | exact hd_keep HF.out (by assumption) (by assumption) | exact hd_write hBw hbt HF.out (by assumption) (by assumption) (by assumption)) (first
              | (go_at_call 39; (with_reducible refine (a_target (op, ⟨a5, b6, c5, i5⟩) j (by omega) _ HZ.out _ (hd_env h (by assumption))).mono ?_); rintro e w3 ⟨rfl, hb4⟩)
              | (go_at_call 38; (with_reducible refine (HM.out _ (hd_env h (by assumption))).mono ?_); rintro e w4 ⟨rfl, hb5⟩)
              | (go_at_call 32; (refine ((((show HoldsB B B l0 w2.drew from hH2).below hb4).below hb5).write (L ++ [10]) HLt.out).mono ?_); rintro e w5 ⟨⟨n, rfl⟩, hH5, hb6, hk6⟩))
            have hs5 : HeldD w wr.heap.size op a5 b6 c5 i5 b N (nameC ps (ps.length + 1)) z nm w5 := by assumption
            obtain ⟨_, _, _, _, _, _, _, hbz, hMz⟩ := hs5
            rw [heq.out] at hH5
            rw [hl] at hMz
            clear hb4 hb5 hb6 hk6 hh hH2
            go_wp2
            go_round
            case rel => exact ⟨j + 1, by omega, by go_num, hH5, hMz, hbz⟩
            case measure => simp [intOf]; omega
          · obtain rfl : j = k := by omega
            have hll := lines_len HO.out HC.out (by omega) j (by omega)
            have hMp : OwnM Tryz.prog 3 9 wr b N (nameC ps (ps.length + 1)) := by rw [hl]; exact hM
            have heq := Lib.hid (show lfs (linesTo ps j) ++ lfs (labelLines ps j) = disV ps by
              unfold disV
              rw [linesTo_succ, lfs_append, lfs_append, hl]
              have : insLines ps j = [] := by unfold insLines; rw [List.getElem?_eq_none (by omega)]
              rw [this, lfs_nil, List.append_nil])
            go_wp2_with fail
            refine (a_writeLabel B B b N (lfs (linesTo ps j)) ps j (by omega) (by omega) _ hH hMp).mono ?_
            rintro e w2 ⟨rfl, hH2, hb2, hk2⟩
            rw [heq.out] at hH2
            have hb3 := hbq.trans (hb2.mono hBw)
            go_wp2_with fail
            refine hH2.text.mono ?_
            rintro e w3 ⟨rfl, hb4⟩
            have hb5 := hb3.trans (hb4.mono hBw)
            go_wp2
            go_ret2
            exact ⟨by rw [HV.out]; rfl, hb5⟩
end Go.Proofs.YtcplhochgngedaaGreatDoor.DisC
