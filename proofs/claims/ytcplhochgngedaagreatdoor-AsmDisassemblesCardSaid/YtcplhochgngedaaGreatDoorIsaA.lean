/-
  Contracts of the small functions of package isa.
-/
import Derived.Test.YtcplhochgngedaaGreatDoorIsaE
import Derived.Test.YtcplhochgngedaaGreatDoorIsaS
import Derived.Test.YtcplhochgngedaaGreatDoorShelf
import Derived.Test.YtcplhochgngedaaGreatDoorBlk
import Derived.Lib.Hide
import Derived.BigQuiet
import Derived.Deep.QuietTactic
namespace Go.Proofs.YtcplhochgngedaaGreatDoor.IsaA
open Go.ChangeShapes Go.WideShapes Go.ChangeAt Go.RowKit
open PlainT IsaE IsaS BlkW
set_option linter.unusedVariables false
set_option maxHeartbeats 400000

/-! ### Worlds. -/
theorem below_grow (w : World) (k : Nat) (os : Array Obj) : Below w.heap.size w (Sort.grow (w.drewN k) os) :=
  ⟨rfl, rfl, rfl, by show w.heap.size ≤ (w.heap ++ os).size; rw [Array.size_append]; omega, fun i hi => by
    show (w.heap ++ os)[i]? = _
    rw [Array.getElem?_append_left hi]⟩
/-! ### Registers, fields. -/
/-- A register. -/
def reg (n : Int) : Bool := decide (0 ≤ n ∧ n < 8)
theorem a_register (n : Int) (v : Bool) (hv : reg n = v) (w : World) : Calls Tryz.prog 64 #[.int .i64 n] w fun e w' => e = .returned (.bool v) ∧ w = w' := by
  have key : v = reg n := hv.symm
  subst key
  clear hv
  by_cases h0 : 0 ≤ n
  · by_cases h1 : n < 8
    · have e : reg n = true := decide_eq_true ⟨h0, h1⟩
      rw [e]; clear e
      go_enter Tryz.func64, Tryz.ntmps64
      go_wp2
      go_ret
      exact ⟨rfl, rfl⟩
    · have e : reg n = false := decide_eq_false (by omega)
      rw [e]; clear e
      go_enter Tryz.func64, Tryz.ntmps64
      go_wp2
      go_ret
      exact ⟨rfl, rfl⟩
  · have e : reg n = false := decide_eq_false (by omega)
    rw [e]; clear e
    go_enter Tryz.func64, Tryz.ntmps64
    go_wp2
    go_ret
    exact ⟨rfl, rfl⟩
/-- The field that a letter names, as an offset. -/
def fld (c : Int) : Nat := if c = 97 then 1 else if c = 98 then 2 else if c = 99 then 3 else 4
theorem a_field (b : Nat) (c : Int) (w : World) : Calls Tryz.prog 63 #[.pointer (some ⟨b, 0, none⟩), .int .i32 c] w fun e w' => e = .returned (.pointer (some ⟨b, fld c, none⟩)) ∧ w = w' := by
  by_cases ha : c = 97
  · subst ha
    go_enter Tryz.func63, Tryz.ntmps63
    go_wp2
    go_ret
    exact ⟨rfl, rfl⟩
  · by_cases hb : c = 98
    · subst hb
      go_enter Tryz.func63, Tryz.ntmps63
      go_wp2
      go_ret
      exact ⟨rfl, rfl⟩
    · by_cases hc : c = 99
      · subst hc
        go_enter Tryz.func63, Tryz.ntmps63
        go_wp2
        go_ret
        exact ⟨rfl, rfl⟩
      · have e : fld c = 4 := by unfold fld; rw [if_neg ha, if_neg hb, if_neg hc]
        rw [e]; clear e
        have qa : (c == 97) = false := by simpa using ha
        have qb : (c == 98) = false := by simpa using hb
        have qc : (c == 99) = false := by simpa using hc
        go_enter Tryz.func63, Tryz.ntmps63
        go_wp2
        go_ret
        exact ⟨rfl, rfl⟩

/-! ### The range of Imm. -/
def loL : List Int := [0, -9223372036854775808, 0, 0, 0, 0, 0, 1, 0, 0, -9223372036854775808, -9223372036854775808, -9223372036854775808, -9223372036854775808, 0, 0, 0, 0]
def hiL : List Int := [0, 9223372036854775807, 0, 21, 64, 64, 64, 8, 0, 0, 9223372036854775807, 9223372036854775807, 9223372036854775807, 9223372036854775807, 3, 0, 0, 0]
def loI (k : Nat) : Int := loL.getD k 0
def hiI (k : Nat) : Int := hiL.getD k 0
theorem op_cases {k : Nat} (hk : k < 18) : k = 0 ∨ k = 1 ∨ k = 2 ∨ k = 3 ∨ k = 4 ∨ k = 5 ∨ k = 6 ∨ k = 7 ∨ k = 8 ∨ k = 9 ∨ k = 10 ∨ k = 11 ∨ k = 12 ∨ k = 13 ∨ k = 14 ∨ k = 15 ∨ k = 16 ∨ k = 17 := by omega
theorem a_span (k : Nat) (hk : k < 18) (w : World) : Calls Tryz.prog 62 #[.int .i64 k] w fun e w' => e = .returned (.tuple #[.int .i64 (loI k), .int .i64 (hiI k)]) ∧ w = w' := by
  rcases op_cases hk with rfl | rfl | rfl | rfl | rfl | rfl | rfl | rfl | rfl | rfl | rfl | rfl | rfl | rfl | rfl | rfl | rfl | rfl
  all_goals
    clear hk
    go_enter Tryz.func62, Tryz.ntmps62
    go_wp2
    go_ret2
    exact ⟨rfl, rfl⟩

/-! ### Check. -/
def letters (k : Nat) : List UInt8 := opLetters.getD k []
def lettersB (k : Nat) : ByteArray := ⟨(letters k).toArray⟩
theorem lettersB_size (k : Nat) : (lettersB k).size = (letters k).length := by unfold lettersB; rfl
theorem letters_le (k : Nat) : (letters k).length ≤ 3 := by
  by_cases hk : k < 18
  · rcases op_cases hk with rfl | rfl | rfl | rfl | rfl | rfl | rfl | rfl | rfl | rfl | rfl | rfl | rfl | rfl | rfl | rfl | rfl | rfl <;> decide
  · unfold letters
    rw [List.getD_eq_getElem?_getD, List.getElem?_eq_none (by show 18 ≤ k; omega)]
    decide
theorem letter_of (k p : Nat) (hp : p < (letters k).length) : (letters k)[p] = 97 ∨ (letters k)[p] = 98 ∨ (letters k)[p] = 99 ∨ (letters k)[p] = 110 := by
  by_cases hk : k < 18
  · have all : ∀ k : Fin 18, ∀ l ∈ letters k.val, l = 97 ∨ l = 98 ∨ l = 99 ∨ l = 110 := by decide
    exact all ⟨k, hk⟩ _ (List.getElem_mem hp)
  · exfalso
    unfold letters at hp
    rw [List.getD_eq_getElem?_getD, List.getElem?_eq_none (by show 18 ≤ k; omega)] at hp
    simp at hp
theorem fresh_of (k p : Nat) (hp : p < (letters k).length) : (letters k)[p] ∉ (letters k).take p := by
  by_cases hk : k < 18
  · have all : ∀ k : Fin 18, ∀ p : Fin 3, ∀ h : p.val < (letters k.val).length, (letters k.val)[p.val] ∉ (letters k.val).take p.val := by decide
    exact all ⟨k, hk⟩ ⟨p, by have := letters_le k; omega⟩ hp
  · exfalso
    unfold letters at hp
    rw [List.getD_eq_getElem?_getD, List.getElem?_eq_none (by show 18 ≤ k; omega)] at hp
    simp at hp
/-- The field x of letter l behind the letters T: 0 if it was visited. -/
def zap (l : UInt8) (T : List UInt8) (x : Int) : Int := if l ∈ T then 0 else x
theorem zap_self (l : UInt8) (T : List UInt8) (x : Int) : zap l (T ++ [l]) x = 0 := by unfold zap; rw [if_pos (by simp)]
theorem zap_other (l m : UInt8) (T : List UInt8) (x : Int) (h : l ≠ m) : zap l (T ++ [m]) x = zap l T x := by
  unfold zap
  by_cases hl : l ∈ T
  · rw [if_pos hl, if_pos (by simp [hl])]
  · rw [if_neg hl, if_neg (by simp [hl, h])]
theorem zap_fresh (l : UInt8) (T : List UInt8) (x : Int) (h : l ∉ T) : zap l T x = x := by unfold zap; rw [if_neg h]
/-- Each letter visited names a register, or Imm. -/
def pass (T : List UInt8) (a b c : Int) : Bool := T.all fun l => if l = 97 then reg a else if l = 98 then reg b else if l = 99 then reg c else true
theorem pass_snoc (T : List UInt8) (l : UInt8) (a b c : Int) : pass (T ++ [l]) a b c = (pass T a b c && (if l = 97 then reg a else if l = 98 then reg b else if l = 99 then reg c else true)) := by
  unfold pass
  rw [List.all_append]
  simp
/-- The operands of operation k are permitted. -/
def fit (k : Nat) (a b c i : Int) : Bool := (decide (loI k ≤ i) && decide (i ≤ hiI k)) && (pass (letters k) a b c && (zap 97 (letters k) a == 0 && (zap 98 (letters k) b == 0 && zap 99 (letters k) c == 0)))
/-- An instruction as a value. -/
abbrev ins (op a b c i : Int) : Value := .agg #[.int .i64 op, .int .i64 a, .int .i64 b, .int .i64 c, .int .i64 i]
/-- The error of Check. -/
def chk (op a b c i : Int) : Int := if 0 ≤ op ∧ op < 18 then (if fit op.toNat a b c i = true then 0 else 11) else 10

theorem take_snoc (T : List UInt8) (p : Nat) (h : p < T.length) : T.take (p + 1) = T.take p ++ [T[p]] := by
  rw [List.take_succ_eq_append_getElem h]

theorem a_check_op (op a b c i : Int) (h : ¬ (0 ≤ op ∧ op < 18)) (w : World) : Calls Tryz.prog 35 #[ins op a b c i] w fun e w' => e = .returned (.int .i64 10) ∧ Below w.heap.size w w' := by
  show Calls _ _ #[.agg _] _ _
  by_cases h0 : op < 0
  · go_enter Tryz.func35, Tryz.ntmps35
    go_wp2
    go_ret
    exact ⟨rfl, below_new _ _⟩
  · have h1 : 18 ≤ op := by omega
    clear h
    go_enter Tryz.func35, Tryz.ntmps35
    go_wp2
    go_ret
    exact ⟨rfl, below_new _ _⟩
theorem shape_cell {w : World} (h : Env w) (k j : Nat) (hk : k < 18) (hj : j < 5) : w.cell? ⟨0, k * 5 + j, none⟩ = shapeCells[k * 5 + j]? := by
  rw [h.shapes.cell, List.getElem?_toArray]
theorem shape_letters {w : World} (h : Env w) (k : Nat) (hk : k < 18) : w.cell? ⟨0, k * 5 + 1, none⟩ = some (.string (lettersB k)) := by
  rw [shape_cell h k 1 hk (by omega)]
  rcases op_cases hk with rfl | rfl | rfl | rfl | rfl | rfl | rfl | rfl | rfl | rfl | rfl | rfl | rfl | rfl | rfl | rfl | rfl | rfl <;> rfl
/-- What Check returns for an operation whose Imm is in its range. -/
def chkV (k : Nat) (a b c i : Int) : Int := if fit k a b c i = true then 0 else 11
theorem chkV_no {k : Nat} {a b c i : Int} (h : pass (letters k) a b c = false) : chkV k a b c i = 11 := by
  unfold chkV fit
  rw [h]
  simp
theorem chkV_zap {k : Nat} {a b c i : Int} (h : zap 97 (letters k) a ≠ 0 ∨ zap 98 (letters k) b ≠ 0 ∨ zap 99 (letters k) c ≠ 0) : chkV k a b c i = 11 := by
  unfold chkV fit
  rcases h with h | h | h
  all_goals
    have e := beq_eq_false_iff_ne.2 h
    rw [e]
    simp
theorem chkV_yes {k : Nat} {a b c i : Int} (h0 : loI k ≤ i) (h1 : i ≤ hiI k) (h : pass (letters k) a b c = true) (ha : zap 97 (letters k) a = 0) (hb : zap 98 (letters k) b = 0) (hc : zap 99 (letters k) c = 0) : chkV k a b c i = 0 := by
  unfold chkV fit
  rw [decide_eq_true h0, decide_eq_true h1, h, ha, hb, hc]
  rfl
theorem pass_take {T : List UInt8} {a b c : Int} {p : Nat} (hp : p < T.length) (hf : pass (T.take (p + 1)) a b c = false) : pass T a b c = false := by
  have e : T = T.take (p + 1) ++ T.drop (p + 1) := (List.take_append_drop _ _).symm
  rw [e]
  unfold pass at hf ⊢
  rw [List.all_append, hf]
  rfl
/-- The cells of the instruction whose fields are visited. -/
def rest (k : Nat) (T : List UInt8) (a b c i : Int) : Array Value := #[.int .i64 k, .int .i64 (zap 97 T a), .int .i64 (zap 98 T b), .int .i64 (zap 99 T c), .int .i64 (zap 110 T i)]
theorem rest_start (k : Nat) (a b c i : Int) : rest k [] a b c i = #[.int .i64 k, .int .i64 a, .int .i64 b, .int .i64 c, .int .i64 i] := by
  unfold rest zap
  simp
theorem rest_get (k : Nat) (T : List UInt8) (a b c i : Int) (l : UInt8) (hl : l = 97 ∨ l = 98 ∨ l = 99 ∨ l = 110) (hf : l ∉ T) : (rest k T a b c i)[fld l.toNat]? = some (.int .i64 (if l = 97 then a else if l = 98 then b else if l = 99 then c else i)) := by
  unfold rest
  rcases hl with rfl | rfl | rfl | rfl
  all_goals
    rw [zap_fresh _ _ _ hf]
    rfl
theorem rest_set (k : Nat) (T : List UInt8) (a b c i : Int) (l : UInt8) (hl : l = 97 ∨ l = 98 ∨ l = 99 ∨ l = 110) : (rest k T a b c i).setIfInBounds (fld l.toNat) (.int .i64 0) = rest k (T ++ [l]) a b c i := by
  unfold rest
  rcases hl with rfl | rfl | rfl | rfl
  all_goals
    rw [zap_self]
    repeat rw [zap_other _ _ _ _ (by decide)]
    rfl
theorem lettersB_at (k p : Nat) (hp : p < (letters k).length) (h : p < (lettersB k).size) : (lettersB k)[p]'h = (letters k)[p] := rfl

theorem a_field_a (b : Nat) (w : World) : Calls Tryz.prog 63 #[.pointer (some ⟨b, 0, none⟩), .int .i32 97] w fun e w' => e = .returned (.pointer (some ⟨b, 1, none⟩)) ∧ w = w' := a_field b 97 w
theorem a_field_b (b : Nat) (w : World) : Calls Tryz.prog 63 #[.pointer (some ⟨b, 0, none⟩), .int .i32 98] w fun e w' => e = .returned (.pointer (some ⟨b, 2, none⟩)) ∧ w = w' := a_field b 98 w
theorem a_field_c (b : Nat) (w : World) : Calls Tryz.prog 63 #[.pointer (some ⟨b, 0, none⟩), .int .i32 99] w fun e w' => e = .returned (.pointer (some ⟨b, 3, none⟩)) ∧ w = w' := a_field b 99 w
theorem a_field_n (b : Nat) (w : World) : Calls Tryz.prog 63 #[.pointer (some ⟨b, 0, none⟩), .int .i32 110] w fun e w' => e = .returned (.pointer (some ⟨b, 4, none⟩)) ∧ w = w' := a_field b 110 w
theorem meas {wr wr' : World} {g n p : Nat} (h1 : wr'.iterPos g = p + 1) (h2 : wr.iterPos g = p) (hp : p < n) : n - wr'.iterPos g < n - wr.iterPos g := by
  rw [h1, h2]
  omega
/-- The letter at place p. -/
theorem letter_at (k p : Nat) (hp : p < (letters k).length) : ∃ l : UInt8, (l = 97 ∨ l = 98 ∨ l = 99 ∨ l = 110) ∧ l ∉ (letters k).take p ∧ (letters k).take (p + 1) = (letters k).take p ++ [l] ∧ ∀ h, (lettersB k)[p]'h = l :=
  ⟨_, letter_of k p hp, fresh_of k p hp, take_snoc _ p hp, fun h => rfl⟩
theorem next_letter (k p : Nat) (l : UInt8) (hp : p < (letters k).length) (hl : l = 97 ∨ l = 98 ∨ l = 99 ∨ l = 110) (hs : ∀ h, (lettersB k)[p]'h = l) {g : Nat} {wr : World} (hit : It wr g (lettersB k) p) :
    ∀ ty, (Instr.next (.pointer (some ⟨g, 0, none⟩)) true ty).run Tryz.prog wr = .ok (.tuple #[.bool true, .int .i64 p, .int .i32 (l.toNat : Int)]) (wr.iterAt g (lettersB k) (p + 1)) := by
  intro ty
  have hltB : p < (lettersB k).size := hp
  have hasc : ((lettersB k)[p]'hltB).toNat < 128 := by
    rw [hs hltB]
    rcases hl with e | e | e | e <;> rw [e] <;> decide
  have := Lib.run_next_ascii_at (P := Tryz.prog) wr g (lettersB k) p ty hit hltB hasc
  rw [hs hltB] at this
  exact this
theorem next_end (k p : Nat) (hp : ¬ p < (letters k).length) {g : Nat} {wr : World} (hit : It wr g (lettersB k) p) : ∀ ty, (Instr.next (.pointer (some ⟨g, 0, none⟩)) true ty).run Tryz.prog wr = .ok (.tuple #[.bool false]) wr := fun ty => Lib.run_next_end_at wr g (lettersB k) p ty hit hp
theorem pass_step {T S : List UInt8} {l : UInt8} {a b c : Int} (h : pass T a b c = true) (e : S = T ++ [l]) : pass S a b c = (if l = 97 then reg a else if l = 98 then reg b else if l = 99 then reg c else true) := by
  rw [e, pass_snoc, h, Bool.true_and]
theorem rest_step {k : Nat} {T S : List UInt8} {a b c i : Int} {l : UInt8} (hl : l = 97 ∨ l = 98 ∨ l = 99 ∨ l = 110) (e : S = T ++ [l]) {w : World} {g : Nat} {t : TypeId} (h : Mem w g t (rest k T a b c i)) : Mem (w.setCell ⟨g, fld l.toNat, none⟩ (.int .i64 0)) g t (rest k S a b c i) := by
  have := h.set_ (fld l.toNat) (.int .i64 0)
  rw [rest_set k T a b c i l hl, ← e] at this
  exact this
theorem rest_cell {k : Nat} {T : List UInt8} {a b c i : Int} {l : UInt8} (hl : l = 97 ∨ l = 98 ∨ l = 99 ∨ l = 110) (hf : l ∉ T) {w : World} {g : Nat} {t : TypeId} (h : Mem w g t (rest k T a b c i)) : w.cell? ⟨g, fld l.toNat, none⟩ = some (.int .i64 (if l = 97 then a else if l = 98 then b else if l = 99 then c else i)) :=
  (h.cell _).trans (rest_get k T a b c i l hl hf)

theorem a_check_in (k : Nat) (hk : k < 18) (a b c i : Int) (h0 : loI k ≤ i) (h1 : i ≤ hiI k) (w : World) (h : Env w) : Calls Tryz.prog 35 #[ins k a b c i] w fun e w' => e = .returned (.int .i64 (chkV k a b c i)) ∧ Below w.heap.size w w' := by
  show Calls _ _ #[.agg _] _ _
  have h0' : ¬ i < loI k := by omega
  have h1' : ¬ hiI k < i := by omega
  have hcell := fun o1 o2 => shape_letters ((h.alloc o1).alloc o2) k hk
  have HK := Lib.hid hk
  have H0 := Lib.hid h0
  have H1 := Lib.hid h1
  go_enter Tryz.func35, Tryz.ntmps35
  go_wp2_with (go_at_call 62; refine (a_span k hk _).mono ?_; rintro e w1 ⟨rfl, rfl⟩)
  clear hcell
  go_loopw [] (fun wr => ∃ p, p ≤ (letters k).length ∧ It wr (w.heap.size + 2) (lettersB k) p ∧ Mem wr (w.heap.size + 1) 40 (rest k ((letters k).take p) a b c i) ∧ pass ((letters k).take p) a b c = true ∧ Below w.heap.size w wr) (fun wr => (letters k).length - wr.iterPos (w.heap.size + 2))
  case atStart =>
    refine ⟨0, Nat.zero_le _, ?_, ?_, rfl, ?_⟩
    · exact it_new2 _ _ _ _
    · rw [List.take_zero, rest_start]
      exact (mem_new1 _ _ _ _).alloc _
    · exact below_new3 _ _ _ _
  case round =>
    obtain ⟨p, hp, hit, hm, hps, hb⟩ := hrel
    by_cases hlt : p < (letters k).length
    · obtain ⟨l, hl, hfr, hts, hs⟩ := letter_at k p hlt
      have hnx := next_letter k p l hlt hl hs hit
      have hm2 := hm.iterAt (k := w.heap.size + 2) (s := lettersB k) (q := p + 1) (by omega)
      have hit2 := hit.on (p + 1)
      have hb2 := below_iter hb (k := w.heap.size + 2) (by omega) (lettersB k) (p + 1)
      have hcell := rest_cell hl hfr hm2
      have hfz := hm2.frozen (fld l.toNat)
      have hrel' := rest_step hl hts hm2
      have hit3 := hit2.far (a := ⟨w.heap.size + 1, fld l.toNat, none⟩) (by simp) (.int .i64 0)
      have hb3 := hb2.setCell (p := ⟨w.heap.size + 1, fld l.toNat, none⟩) (by simp) (.int .i64 0)
      have hsn := Lib.hid (pass_step (S := (letters k).take (p + 1)) hps hts)
      have hpos := Lib.hid hit.pos
      clear hm hit hb hm2 hit2 h HK H0 H1 hts hps hs hfr
      rcases hl with rfl | rfl | rfl | rfl
      · have hcell : (wr.iterAt (w.heap.size + 2) (lettersB k) (p + 1)).cell? ⟨w.heap.size + 1, 1, none⟩ = some (.int .i64 a) := hcell
        have hfz : (wr.iterAt (w.heap.size + 2) (lettersB k) (p + 1)).frozen? ⟨w.heap.size + 1, 1, none⟩ = false := hfz
        by_cases hr : reg a = true
        · go_wp2_with (first | (go_at_call 63; refine (a_field_a _ _).mono ?_; rintro e w1 ⟨rfl, rfl⟩) | (go_at_call 64; refine (a_register _ _ hr _).mono ?_; rintro e w1 ⟨rfl, rfl⟩))
          go_roundw
          case rel => exact ⟨p + 1, hlt, hit3, hrel', by rw [hsn.out]; exact hr, hb3⟩
          case measure => exact meas hit3.pos hpos.out hlt
        · have hr' : reg a = false := by simpa using hr
          have hno := Lib.hid (chkV_no (i := i) (pass_take hlt (hsn.out.trans hr')))
          have hb4 := hb2
          clear hr
          go_wp2_with (first | (go_at_call 63; refine (a_field_a _ _).mono ?_; rintro e w1 ⟨rfl, rfl⟩) | (go_at_call 64; refine (a_register _ _ hr' _).mono ?_; rintro e w1 ⟨rfl, rfl⟩))
          go_ret
          exact ⟨by rw [hno.out]; rfl, hb4⟩
      · have hcell : (wr.iterAt (w.heap.size + 2) (lettersB k) (p + 1)).cell? ⟨w.heap.size + 1, 2, none⟩ = some (.int .i64 b) := hcell
        have hfz : (wr.iterAt (w.heap.size + 2) (lettersB k) (p + 1)).frozen? ⟨w.heap.size + 1, 2, none⟩ = false := hfz
        by_cases hr : reg b = true
        · go_wp2_with (first | (go_at_call 63; refine (a_field_b _ _).mono ?_; rintro e w1 ⟨rfl, rfl⟩) | (go_at_call 64; refine (a_register _ _ hr _).mono ?_; rintro e w1 ⟨rfl, rfl⟩))
          go_roundw
          case rel => exact ⟨p + 1, hlt, hit3, hrel', by rw [hsn.out]; exact hr, hb3⟩
          case measure => exact meas hit3.pos hpos.out hlt
        · have hr' : reg b = false := by simpa using hr
          have hno := Lib.hid (chkV_no (i := i) (pass_take hlt (hsn.out.trans hr')))
          have hb4 := hb2
          clear hr
          go_wp2_with (first | (go_at_call 63; refine (a_field_b _ _).mono ?_; rintro e w1 ⟨rfl, rfl⟩) | (go_at_call 64; refine (a_register _ _ hr' _).mono ?_; rintro e w1 ⟨rfl, rfl⟩))
          go_ret
          exact ⟨by rw [hno.out]; rfl, hb4⟩
      · have hcell : (wr.iterAt (w.heap.size + 2) (lettersB k) (p + 1)).cell? ⟨w.heap.size + 1, 3, none⟩ = some (.int .i64 c) := hcell
        have hfz : (wr.iterAt (w.heap.size + 2) (lettersB k) (p + 1)).frozen? ⟨w.heap.size + 1, 3, none⟩ = false := hfz
        by_cases hr : reg c = true
        · go_wp2_with (first | (go_at_call 63; refine (a_field_c _ _).mono ?_; rintro e w1 ⟨rfl, rfl⟩) | (go_at_call 64; refine (a_register _ _ hr _).mono ?_; rintro e w1 ⟨rfl, rfl⟩))
          go_roundw
          case rel => exact ⟨p + 1, hlt, hit3, hrel', by rw [hsn.out]; exact hr, hb3⟩
          case measure => exact meas hit3.pos hpos.out hlt
        · have hr' : reg c = false := by simpa using hr
          have hno := Lib.hid (chkV_no (i := i) (pass_take hlt (hsn.out.trans hr')))
          have hb4 := hb2
          clear hr
          go_wp2_with (first | (go_at_call 63; refine (a_field_c _ _).mono ?_; rintro e w1 ⟨rfl, rfl⟩) | (go_at_call 64; refine (a_register _ _ hr' _).mono ?_; rintro e w1 ⟨rfl, rfl⟩))
          go_ret
          exact ⟨by rw [hno.out]; rfl, hb4⟩
      · have hcell : (wr.iterAt (w.heap.size + 2) (lettersB k) (p + 1)).cell? ⟨w.heap.size + 1, 4, none⟩ = some (.int .i64 i) := hcell
        have hfz : (wr.iterAt (w.heap.size + 2) (lettersB k) (p + 1)).frozen? ⟨w.heap.size + 1, 4, none⟩ = false := hfz
        go_wp2_with (go_at_call 63; refine (a_field_n _ _).mono ?_; rintro e w1 ⟨rfl, rfl⟩)
        go_roundw
        case rel => exact ⟨p + 1, hlt, hit3, hrel', by rw [hsn.out]; rfl, hb3⟩
        case measure => exact meas hit3.pos hpos.out hlt
    · have hpe : p = (letters k).length := by omega
      have hnx := next_end k p hlt hit
      rw [hpe, List.take_length] at hm hps
      have ha : wr.cell? ⟨w.heap.size + 1, 1, none⟩ = some (.int .i64 (zap 97 (letters k) a)) := hm.cell 1
      have hbb : wr.cell? ⟨w.heap.size + 1, 2, none⟩ = some (.int .i64 (zap 98 (letters k) b)) := hm.cell 2
      have hc : wr.cell? ⟨w.heap.size + 1, 3, none⟩ = some (.int .i64 (zap 99 (letters k) c)) := hm.cell 3
      clear hm hpe hlt hp hit
      by_cases z1 : zap 97 (letters k) a = 0
      · by_cases z2 : zap 98 (letters k) b = 0
        · by_cases z3 : zap 99 (letters k) c = 0
          · have hv := Lib.hid (chkV_yes H0.out H1.out hps z1 z2 z3)
            rw [z1] at ha; rw [z2] at hbb; rw [z3] at hc
            clear z1 z2 z3 hps
            go_wp2
            go_ret
            exact ⟨by rw [hv.out]; rfl, hb⟩
          · have hv := Lib.hid (chkV_zap (k := k) (a := a) (b := b) (c := c) (i := i) (.inr (.inr z3)))
            have q : (zap 99 (letters k) c != 0) = true := by simpa using z3
            rw [z1] at ha; rw [z2] at hbb
            clear z1 z2 z3 hps
            go_wp2
            go_ret
            exact ⟨by rw [hv.out]; rfl, hb⟩
        · have hv := Lib.hid (chkV_zap (k := k) (a := a) (b := b) (c := c) (i := i) (.inr (.inl z2)))
          have q : (zap 98 (letters k) b != 0) = true := by simpa using z2
          rw [z1] at ha
          clear z1 z2 hps
          go_wp2
          go_ret
          exact ⟨by rw [hv.out]; rfl, hb⟩
      · have hv := Lib.hid (chkV_zap (k := k) (a := a) (b := b) (c := c) (i := i) (.inl z1))
        have q : (zap 97 (letters k) a != 0) = true := by simpa using z1
        clear z1 hps
        go_wp2
        go_ret
        exact ⟨by rw [hv.out]; rfl, hb⟩

theorem a_check_imm (k : Nat) (hk : k < 18) (a b c i : Int) (hi : i < loI k ∨ hiI k < i) (w : World) : Calls Tryz.prog 35 #[ins k a b c i] w fun e w' => e = .returned (.int .i64 11) ∧ Below w.heap.size w w' := by
  show Calls _ _ #[.agg _] _ _
  rcases hi with hi | hi
  · go_enter Tryz.func35, Tryz.ntmps35
    go_wp2_with (go_at_call 62; refine (a_span k hk _).mono ?_; rintro e w1 ⟨rfl, rfl⟩)
    go_ret
    exact ⟨rfl, below_new _ _⟩
  · by_cases hi2 : i < loI k
    · go_enter Tryz.func35, Tryz.ntmps35
      go_wp2_with (go_at_call 62; refine (a_span k hk _).mono ?_; rintro e w1 ⟨rfl, rfl⟩)
      go_ret
      exact ⟨rfl, below_new _ _⟩
    · go_enter Tryz.func35, Tryz.ntmps35
      go_wp2_with (go_at_call 62; refine (a_span k hk _).mono ?_; rintro e w1 ⟨rfl, rfl⟩)
      go_ret
      exact ⟨rfl, below_new _ _⟩
theorem chk_in (k : Nat) (hk : k < 18) (a b c i : Int) : chk k a b c i = chkV k a b c i := by
  unfold chk chkV
  rw [if_pos (by omega), Int.toNat_natCast]
theorem chk_imm (k : Nat) (hk : k < 18) (a b c i : Int) (hi : i < loI k ∨ hiI k < i) : chk k a b c i = 11 := by
  rw [chk_in k hk]
  unfold chkV fit
  have e : (decide (loI k ≤ i) && decide (i ≤ hiI k)) = false := by
    rcases hi with h | h
    · rw [decide_eq_false (by omega : ¬ loI k ≤ i)]; rfl
    · rw [decide_eq_false (by omega : ¬ i ≤ hiI k), Bool.and_false]
  rw [e, Bool.false_and]
  rfl
theorem chk_op (op a b c i : Int) (h : ¬ (0 ≤ op ∧ op < 18)) : chk op a b c i = 10 := by
  unfold chk
  rw [if_neg h]
/-- Check returns the error of the document. -/
theorem a_check (op a b c i : Int) (w : World) (h : Env w) : Calls Tryz.prog 35 #[ins op a b c i] w fun e w' => e = .returned (.int .i64 (chk op a b c i)) ∧ Below w.heap.size w w' := by
  by_cases hop : 0 ≤ op ∧ op < 18
  · obtain ⟨k, rfl⟩ := Int.eq_ofNat_of_zero_le hop.1
    have hk : k < 18 := by omega
    by_cases hi : i < loI k ∨ hiI k < i
    · rw [chk_imm k hk a b c i hi]
      exact a_check_imm k hk a b c i hi w
    · rw [chk_in k hk]
      exact a_check_in k hk a b c i (by omega) (by omega) w h
  · rw [chk_op op a b c i hop]
    exact a_check_op op a b c i hop w
end Go.Proofs.YtcplhochgngedaaGreatDoor.IsaA
