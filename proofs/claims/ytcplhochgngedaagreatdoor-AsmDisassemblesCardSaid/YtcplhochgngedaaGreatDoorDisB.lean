/-
  Contracts of the program's Disassemble, part 2: the names of the targets.
-/
import Derived.Test.YtcplhochgngedaaGreatDoorDisA
namespace Go.Proofs.YtcplhochgngedaaGreatDoor.DisB
open Go.ChangeShapes Go.WideShapes Go.ChangeAt Go.RowKit
open PlainT IsaE IsaS BlkW IsaA IsaB IsaF IsaP IsaQ IsaX IsaL AsmS AsmA AsmB IsaR MapW AsmC AsmE AsmF AsmT Bld DisA
set_option linter.unusedVariables false
set_option maxHeartbeats 1000000

/-- A slice at A of n instructions reads as ps. -/
def RowP (w : World) (A : Option Addr) (n : Nat) (ps : List In) : Prop :=
  ps.length = n ∧ (0 < n → ∃ b o : Nat, A = some ⟨b, o, none⟩ ∧ b < w.heap.size ∧ ∀ j u, (rowCells ps)[j]? = some u → w.cell? ⟨b, o + j, none⟩ = some u)
theorem RowP.of_ins {w : World} {A : Option Addr} {n : Nat} {ps : List In} (h : InsRow w A n ps) : RowP w A n ps :=
  ⟨h.1, fun h0 => by
    obtain ⟨b, hA, hb, hc⟩ := h.2 h0
    exact ⟨b, 0, hA, hb, fun j u hu => by rw [Nat.zero_add]; exact hc j u hu⟩⟩
theorem RowP.old {w w' : World} {A : Option Addr} {n : Nat} {ps : List In} (h : RowP w A n ps) (k : Old w w') : RowP w' A n ps :=
  ⟨h.1, fun h0 => by
    obtain ⟨b, o, hA, hb, hc⟩ := h.2 h0
    exact ⟨b, o, hA, Nat.lt_of_lt_of_le hb k.1, fun j u hu => (k.cell (p := ⟨b, o + j, none⟩) hb).trans (hc j u hu)⟩⟩
theorem RowP.below {w w' : World} {A : Option Addr} {n : Nat} {ps : List In} (h : RowP w A n ps) (k : Below w.heap.size w w') : RowP w' A n ps := h.old (.of_below k)
theorem RowP.alloc {w : World} {A : Option Addr} {n : Nat} {ps : List In} (h : RowP w A n ps) (o : Obj) : RowP (w.alloc o) A n ps := h.old ((Old.refl w).alloc o)
/-- The k-th instruction's cells. -/
theorem RowP.at {w : World} {A : Option Addr} {n k : Nat} {ps : List In} (h : RowP w A n ps) (hk : k < n) : ∃ (b o : Nat) (x : In), A = some ⟨b, o, none⟩ ∧ b < w.heap.size ∧ ps[k]? = some x ∧
    w.cell? ⟨b, o + k * 5, none⟩ = some (.int .i64 x.1) ∧ w.cell? ⟨b, o + k * 5 + 1, none⟩ = some (.int .i64 x.2.a) ∧ w.cell? ⟨b, o + k * 5 + 2, none⟩ = some (.int .i64 x.2.b) ∧ w.cell? ⟨b, o + k * 5 + 3, none⟩ = some (.int .i64 x.2.c) ∧ w.cell? ⟨b, o + k * 5 + 4, none⟩ = some (.int .i64 x.2.i) := by
  obtain ⟨hl, h2⟩ := h
  obtain ⟨b, o, hA, hb, hc⟩ := h2 (by omega)
  have hk' : k < ps.length := by omega
  refine ⟨b, o, ps[k], hA, hb, List.getElem?_eq_getElem hk', ?_⟩
  have e : ∀ j u, j < 5 → (insCells ps[k])[j]? = some u → w.cell? ⟨b, o + k * 5 + j, none⟩ = some u := fun j u hj hu => by
    rw [Nat.add_assoc]
    refine hc _ _ ?_
    rw [rowCells_get ps k j hk' hj, List.getD_eq_getElem?_getD, List.getElem?_eq_getElem hk']
    exact hu
  exact ⟨e 0 _ (by omega) rfl, e 1 _ (by omega) rfl, e 2 _ (by omega) rfl, e 3 _ (by omega) rfl, e 4 _ (by omega) rfl⟩

/-- The array of the positions that are reached by the first k. -/
def marks (p : List In) (k : Nat) : Array Value := ((List.range 65).map fun j => Value.bool (AsmT.mark p k j)).toArray
theorem marks_zero (p : List In) : marks p 0 = Array.replicate 65 (.bool false) := by
  unfold marks
  simp only [AsmT.mark_zero]
  rfl
/-- An owned map of just so many keys. -/
def OwnS (P : Program) (k e : TypeId) (w : World) (b s : Nat) (C : Lit → Option Lit) : Prop := ∃ n D, w.ownsMap P k (plainElem P e) b n D ∧ n ≤ s ∧ Holds D C ∧ Maps.Tidy D ∧ Maps.size D = s
theorem OwnS.own {P : Program} {k e : TypeId} {w : World} {b s : Nat} {C : Lit → Option Lit} (h : OwnS P k e w b s C) : OwnM P k e w b s C := by
  obtain ⟨n, D, h1, h2, h3, _, _⟩ := h
  exact ⟨n, D, h1, h2, h3⟩
theorem OwnS.made (w : World) (P : Program) (k e : TypeId) : OwnS P k e (w.alloc (.map #[] 0)) w.heap.size 0 (fun _ => none) := ⟨0, _, World.ownsMap_made w P k _, Nat.le_refl _, Holds.empty, Maps.tidy_empty, rfl⟩
theorem OwnS.of_block {P : Program} {k e : TypeId} {w w' : World} {b s : Nat} {C : Lit → Option Lit} (h : OwnS P k e w b s C) (hb : w'.heap[b]? = w.heap[b]?) : OwnS P k e w' b s C := by
  obtain ⟨n, D, ⟨es, clock, h1, h2⟩, h3, h4, h5⟩ := h
  exact ⟨n, D, ⟨es, clock, hb.trans h1, h2⟩, h3, h4, h5⟩
theorem OwnS.old {P : Program} {k e : TypeId} {w w' : World} {b s : Nat} {C : Lit → Option Lit} (h : OwnS P k e w b s C) (o : Old w w') : OwnS P k e w' b s C := h.of_block (o.2 b h.own.lt)
theorem OwnS.congr {P : Program} {k e : TypeId} {w : World} {b s : Nat} {C C' : Lit → Option Lit} (h : OwnS P k e w b s C) (he : ∀ k, WideAt.IsKeyLit k → C k = C' k) : OwnS P k e w b s C' := by
  obtain ⟨n, D, h1, h2, h3, h4⟩ := h
  exact ⟨n, D, h1, h2, h3.congr he, h4⟩
theorem OwnS.len {P : Program} {k e t : TypeId} {w : World} {b s : Nat} {C : Lit → Option Lit} (h : OwnS P k e w b s C) (ht : P.underlying t = some (.map k e)) (ty : TypeId) : (Builtin.len_ #[t] ty #[.map (some b)]).run P w = .ok (.int .i64 s) w := by
  obtain ⟨n, D, h1, h2, h3, _, h4⟩ := h
  rw [h1.len ht ty, h4]
theorem OwnS.store {P : Program} {k e t : TypeId} {w : World} {b s : Nat} {C : Lit → Option Lit} (h : OwnS P k e w b s C) (hN : s < 1000000) (K : Go.Maps.Keyed P k) (ht : P.underlying t = some (.map k e)) {key val : Value} {kl v : Lit} {C' : Lit → Option Lit} (hC : C' kl = some v) (hO : ∀ k, k ≠ kl → C' k = C k) (hnew : C kl = none) (hkey : keyOf P k key = some kl) (hkl : WideAt.IsKeyLit kl) (hv : plainElem (H := Unit) P e val = some (.lit v, [])) :
    ∃ w', (Instr.mapUpdate t (.map (some b)) key val).run P w = .ok () w' ∧ OwnS P k e w' b (s + 1) C' ∧ w.grownBy w' (some b) := by
  obtain ⟨n, D, h1, hn, h2, ht3, hs⟩ := h
  obtain ⟨w', hrun, h3, h4⟩ := h1.update K ht (by unfold maxLen; omega) hkey hv
  refine ⟨w', hrun, ⟨n + 1, _, h3, by omega, h2.put hkl hC hO, ht3.put hkl _, ?_⟩, h4⟩
  have hno := h2.2 kl hkl
  rw [hnew] at hno
  simp only at hno
  rw [Maps.size_put ht3, if_neg (by simp [hno]), hs]
theorem wpList_len_s {P : Program} {ops : Array Oper} {rest : List Oper} {o : Oper} {a : Act} {w : World} {Q : Exit → Act → World → Prop} (hg : o.guard = none) (m : Operand) (t : TypeId) (hop : o.op = Op.call { callee := Callee.builtin Builtin.len, args := #[m], argTypes := #[t] })
    (k e : TypeId) (ht : P.underlying t = some (.map k e)) (b s : Nat) (C : Lit → Option Lit) (hm : a.eval m = .map (some b)) (hown : OwnS P k e w b s C)
    (hK : wpList P ops Q rest (a.put o.dst (.int .i64 s)) w) : wpList P ops Q (o :: rest) a w := by
  obtain ⟨n, D, h1, _, _, _, h2⟩ := hown
  subst h2
  exact Go.wpList_len_own _ hg m t hop k e ht _ b n D hm h1 hK
theorem hits_tgt {p : List In} {k : Nat} {x : In} (hx : p[k]? = some x) (j : Nat) : hits p k j = decide (tgtZ x k = (j : Int)) := by
  unfold hits tgtZ
  rw [hx]
  simp only
  by_cases hJ : isJ x = true
  · rw [if_pos hJ, hJ, Bool.true_and]
  · rw [if_neg hJ]
    have : isJ x = false := by simpa using hJ
    rw [this, Bool.false_and]
    symm
    rw [decide_eq_false_iff_not]
    omega
theorem marks_size (p : List In) (k : Nat) : (marks p k).size = 65 := by simp [marks]
theorem marks_at (p : List In) (k j : Nat) (hj : j < 65) : (marks p k)[j]? = some (.bool (AsmT.mark p k j)) := by
  unfold marks
  simp [hj]
theorem marks_hit {p : List In} {k t : Nat} {x : In} (hx : p[k]? = some x) (ht : tgtZ x k = (t : Int)) (hl : t ≤ p.length) : (marks p k).setIfInBounds t (.bool true) = marks p (k + 1) := by
  apply Array.ext_getElem?
  intro j
  by_cases hj : j < 65
  · rw [marks_at _ _ _ hj, mark_succ, hits_tgt hx, ht]
    by_cases e : t = j
    · subst e
      rw [Array.getElem?_setIfInBounds_self_of_lt (by rw [marks_size]; exact hj)]
      simp [hl]
    · rw [Array.getElem?_setIfInBounds_ne e, marks_at _ _ _ hj]
      have : ¬ ((t : Int) = j) := by omega
      simp [this]
  · rw [Array.getElem?_eq_none (by rw [Array.size_setIfInBounds, marks_size]; omega), Array.getElem?_eq_none (by rw [marks_size]; omega)]
theorem marks_miss {p : List In} {k : Nat} {x : In} (hx : p[k]? = some x) (ht : tgtZ x k < 0 ∨ (p.length : Int) < tgtZ x k) : marks p k = marks p (k + 1) := by
  apply Array.ext_getElem?
  intro j
  by_cases hj : j < 65
  · rw [marks_at _ _ _ hj, marks_at _ _ _ hj, mark_succ, hits_tgt hx]
    have : (decide (j ≤ p.length) && decide (tgtZ x k = (j : Int))) = false := by
      by_cases e : tgtZ x k = (j : Int)
      · have : ¬ j ≤ p.length := by omega
        simp [this]
      · simp [e]
    rw [this, Bool.or_false]
  · rw [Array.getElem?_eq_none (by rw [marks_size]; omega), Array.getElem?_eq_none (by rw [marks_size]; omega)]
theorem index_marks (p : List In) (k j : Nat) (hj : j < 65) (w : World) : (Instr.index 114 (.agg (marks p k)) (.int .i64 j)).run Tryz.prog w = .ok (.bool (AsmT.mark p k j)) w := by
  have h := marks_at p k j hj
  unfold Instr.index
  go_simp
theorem l_itoa (l : List UInt8) : (⟨#[108]⟩ : ByteArray) ++ ⟨l.toArray⟩ = ⟨(108 :: l).toArray⟩ := by
  apply ByteArray.ext
  simp
theorem keyed_i : Go.Maps.Keyed Tryz.prog 3 := Go.Maps.int_keyed Tryz.underlying3
theorem zero_str (w : World) : (zeroValue 9).run Tryz.prog w = .ok (.string ⟨#[]⟩) w := by kernel_rfl
theorem key_i (j : Nat) (hj : j ≤ 1000) : keyOf Tryz.prog 3 (.int .i64 (j : Int)) = some (.int .i64 (j : Int)) := Go.Maps.keyOf_int_mk Tryz.underlying3 (WalkArith.wf_i64 (by omega))
/-- The map of the names of the positions below j. -/
def nameC (p : List In) (j : Nat) : Lit → Option Lit
  | .int .i64 z => if 0 ≤ z ∧ z.toNat < j ∧ AsmT.R p z.toNat = true then some (.string (nameOf p z.toNat)) else none
  | _ => none
theorem nameC_new (p : List In) (j : Nat) : nameC p j (.int .i64 (j : Int)) = none := by
  unfold nameC
  simp only
  rw [if_neg (by simp)]
theorem nameC_put {p : List In} {j : Nat} (h : AsmT.R p j = true) : nameC p (j + 1) (.int .i64 (j : Int)) = some (.string (nameOf p j)) := by
  unfold nameC
  simp only [Int.toNat_natCast]
  rw [if_pos ⟨by omega, by omega, h⟩]
theorem nameC_other (p : List In) (j : Nat) (k : Lit) (hk : k ≠ .int .i64 (j : Int)) : nameC p (j + 1) k = nameC p j k := by
  unfold nameC
  split
  · rename_i z
    have hz : z ≠ (j : Int) := fun e => hk (by rw [e])
    by_cases h : 0 ≤ z ∧ z.toNat < j ∧ AsmT.R p z.toNat = true
    · rw [if_pos h, if_pos ⟨h.1, by omega, h.2.2⟩]
    · rw [if_neg h, if_neg (fun h2 => h ⟨h2.1, by omega, h2.2.2⟩)]
  · rfl
theorem nameC_skip {p : List In} {j : Nat} (h : AsmT.R p j = false) (k : Lit) : nameC p j k = nameC p (j + 1) k := by
  unfold nameC
  split
  · rename_i z
    by_cases h1 : 0 ≤ z ∧ z.toNat < j ∧ AsmT.R p z.toNat = true
    · rw [if_pos h1, if_pos ⟨h1.1, by omega, h1.2.2⟩]
    · rw [if_neg h1, if_neg (fun h2 => by
        by_cases e : z.toNat = j
        · rw [e, h] at h2
          simp at h2
        · exact h1 ⟨h2.1, by omega, h2.2.2⟩)]
  · rfl
theorem nameC_end (p : List In) (j : Nat) (hj : p.length < j) (k : Lit) : nameC p j k = nameC p (p.length + 1) k := by
  unfold nameC
  split
  · rename_i z
    by_cases h1 : 0 ≤ z ∧ z.toNat < j ∧ AsmT.R p z.toNat = true
    · have : z.toNat ≤ p.length := by
        have h2 := h1.2.2
        unfold AsmT.R AsmT.mark at h2
        simp only [Bool.and_eq_true, decide_eq_true_eq] at h2
        exact h2.1
      rw [if_pos h1, if_pos ⟨h1.1, by omega, h1.2.2⟩]
    · rw [if_neg h1, if_neg (fun h2 => h1 ⟨h2.1, by omega, h2.2.2⟩)]
  · rfl
set_option maxRecDepth 100000 in
theorem a_names (A : Option Addr) (n c : Nat) (ps : List In) (hn : n ≤ 64) (hc : n ≤ c) (hO : ∀ x ∈ ps, OkI x) (w : World) (h : Env w) (hr : RowP w A n ps) :
    Calls Tryz.prog 36 #[.slice A n c] w fun e w' => ∃ b N, e = .returned (.map (some b)) ∧ w.heap.size ≤ b ∧ N ≤ 65 ∧ OwnM Tryz.prog 3 9 w' b N (nameC ps (n + 1)) ∧ Below w.heap.size w w' := by
  have hl := hr.1
  go_enter Tryz.func36, Tryz.ntmps36
  go_wp2
  go_loopw [12] (fun i wr => ∃ k : Nat, k ≤ n ∧ i = .int .i64 k ∧ Mem wr w.heap.size 114 (marks ps k) ∧ Below w.heap.size w wr) (fun i _ => n - (intOf i).toNat)
  case atStart =>
    refine ⟨0, by omega, rfl, ?_, below_new _ _⟩
    rw [marks_zero]
    exact Mem.new w _ _
  case round =>
    obtain ⟨k, hk, rfl, hm, hb⟩ := hrel
    have hE := h.below hb
    have hR := hr.below hb
    by_cases hlt : k < n
    · obtain ⟨b, o, x, rfl, hb5, hx, d0, d1, d2, d3, d4⟩ := hR.at hlt
      have hxO := hO x (List.mem_of_getElem? hx)
      obtain ⟨op, a5, b6, c5, i5⟩ := x
      simp only at d0 d1 d2 d3 d4
      have HX := Lib.hid hx
      have HO := Lib.hid hxO
      clear hx hxO
      go_wp2_with fail
      refine (a_target (op, ⟨a5, b6, c5, i5⟩) k (by omega) _ rfl _ (hE.alloc _)).mono ?_
      rintro e w1 ⟨rfl, hb1⟩
      have hb2 := below_trans2 (below_new _ _) hb1
      have hm1 := hm.below hb2 hm.lt
      have hb3 := below_trans2 hb hb2
      by_cases hT : 0 ≤ tgtZ (op, ⟨a5, b6, c5, i5⟩) k ∧ tgtZ (op, ⟨a5, b6, c5, i5⟩) k ≤ n
      · obtain ⟨t, ht⟩ := Int.eq_ofNat_of_zero_le hT.1
        rw [ht] at hT
        have htn : t ≤ n := by omega
        have hm2 := hm1.set_ t (.bool true)
        rw [marks_hit HX.out ht (by omega)] at hm2
        rw [ht]
        have hc0 := (hm1.cell t).trans (marks_at ps k t (by omega))
        have hf0 := hm1.frozen t
        have ht65 : t < 65 := by omega
        clear hT ht hm1 hm hE hR hb2 hb1
        go_wp2
        go_round
        case rel => exact ⟨k + 1, by omega, by go_num, hm2, hb3.setCell (p := ⟨w.heap.size, t, none⟩) (Nat.le_refl _) _⟩
        case measure => simp [intOf]; omega
      · have hm2 := hm1
        rw [marks_miss HX.out (by omega)] at hm2
        generalize tgtZ (op, ⟨a5, b6, c5, i5⟩) k = tz at hT ⊢
        clear hm1 hm hE hR hb2 hb1
        go_wp2
        all_goals
          go_round
          case rel => exact ⟨k + 1, by omega, by go_num, hm2, hb3⟩
          case measure => simp [intOf]; omega
    · obtain rfl : k = n := by omega
      have hmm := @run_makeMap Tryz.prog
      have hmA := hm.alloc (.map #[] 0)
      have hbA := hb.alloc hb.size (.map #[] 0)
      go_wp2_with (refine wpList_load_row rfl 114 _ rfl w.heap.size rfl 114 (marks ps k) (0, 0) _ hmA Tryz.underlying114 rfl (by rw [marks_size]; kernel_rfl) ?_)
      obtain ⟨g, hg⟩ : ∃ g, g = wr.heap.size := ⟨_, rfl⟩
      have hgw : w.heap.size ≤ g := by rw [hg]; exact hb.size
      have hS0 := OwnS.made wr Tryz.prog 3 9
      rw [← hg] at hS0 ⊢
      clear hR hE hm hmA hmm hb hg
      go_loopw [33] (fun i wq => ∃ j : Nat, j ≤ 65 ∧ i = .int .i64 j ∧ OwnS Tryz.prog 3 9 wq g (cnt ps j) (nameC ps j) ∧ Below w.heap.size w wq) (fun i _ => 65 - (intOf i).toNat)
      case atStart => exact ⟨0, by omega, rfl, hS0.congr (fun k _ => by unfold nameC; split; rw [if_neg (by omega)]; rfl), hbA⟩
      case round =>
        obtain ⟨j, hj, rfl, hS, hbq⟩ := hrel
        by_cases hj65 : j < 65
        · have hix := index_marks ps k j hj65
          have hEq := h.below hbq
          cases hR2 : AsmT.R ps j with
          | false =>
            have hmk : AsmT.mark ps k j = false := by rw [← hl]; exact hR2
            rw [hmk] at hix
            have hS2 : OwnS Tryz.prog 3 9 wr g (cnt ps (j + 1)) (nameC ps (j + 1)) := by
              rw [cnt_succ, hR2]
              exact hS.congr (fun k _ => nameC_skip hR2 k)
            clear hmk
            go_wp2
            go_round
            case rel => exact ⟨j + 1, by omega, by go_num, hS2, hbq⟩
            case measure => simp [intOf]; omega
          | true =>
            have hmk : AsmT.mark ps k j = true := by rw [← hl]; exact hR2
            rw [hmk] at hix
            have hcj := cnt_le ps j
            have hcs : cnt ps (j + 1) = cnt ps j + 1 := by rw [cnt_succ, if_pos hR2]
            have hil := Lib.itoa_length_le ((cnt ps j : Int) + 1) (by omega) (by omega)
            have hsz : (⟨(Lib.itoa ((cnt ps j : Int) + 1)).toArray⟩ : ByteArray).size ≤ 21 := by
              show (Lib.itoa ((cnt ps j : Int) + 1)).toArray.size ≤ 21
              simpa using hil
            have hcat := l_itoa (Lib.itoa ((cnt ps j : Int) + 1))
            have hsz2 : (⟨(108 :: Lib.itoa ((cnt ps j : Int) + 1)).toArray⟩ : ByteArray).size ≤ maxLen := by
              show (108 :: Lib.itoa ((cnt ps j : Int) + 1)).toArray.size ≤ maxLen
              unfold maxLen
              simp
              omega
            have hput := nameC_put hR2
            have hnm : nameOf ps j = 108 :: Lib.itoa ((cnt ps j : Int) + 1) := rfl
            rw [hnm] at hput
            have HP := Lib.hid hput
            have HS := Lib.hid hcs
            clear hmk hput hnm hcs
            go_wp2_with (at_len; refine wpList_len_s rfl _ 75 rfl 3 9 Tryz.underlying75 g (cnt ps j) (nameC ps j) rfl hS ?_)
            refine (a_itoa ((cnt ps j : Int) + 1) (by omega) (by omega) _ hEq).mono ?_
            rintro e w2 ⟨rfl, hb2⟩
            obtain ⟨w3, hrun, hS3, hg3⟩ := (hS.old (.of_below hb2)).store (t := 75) (by omega) keyed_i Tryz.underlying75 HP.out (nameC_other ps j) (nameC_new ps j) (key_i j (by omega)) trivial (plainElem_string Tryz.underlying9 hsz2)
            have hbw2 := below_trans2 hbq hb2
            have hb3 : Below w.heap.size w w3 := grown_below hbw2 hg3 hbw2.size (fun q hq => by injection hq with hq; rw [← hq]; exact hgw)
            rw [← HS.out] at hS3
            clear hg3
            go_wp2
            go_round
            case rel => exact ⟨j + 1, by omega, by go_num, hS3, hb3⟩
            case measure => simp [intOf]; omega
        · obtain rfl : j = 65 := by omega
          have hO2 := hS.own
          have hcl := cnt_le ps 65
          go_wp2
          go_ret
          refine ⟨g, _, rfl, hgw, hcl, ?_, hbq⟩
          obtain ⟨n, D, h1, h2, h3⟩ := hO2
          exact ⟨n, D, h1, h2, h3.congr (fun q _ => by rw [← hl]; exact nameC_end ps 65 (by omega) q)⟩
end Go.Proofs.YtcplhochgngedaaGreatDoor.DisB
