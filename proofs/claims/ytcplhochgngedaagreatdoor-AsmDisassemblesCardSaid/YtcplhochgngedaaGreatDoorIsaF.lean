/-
  Contracts of name, operand and Format of package isa.
-/
import Derived.Test.YtcplhochgngedaaGreatDoorIsaB
import Derived.Lib.ItoaLen
namespace Go.Proofs.YtcplhochgngedaaGreatDoor.IsaF
open Go.ChangeShapes Go.WideShapes Go.ChangeAt Go.RowKit
open PlainT IsaE IsaS BlkW IsaA IsaB
set_option linter.unusedVariables false
set_option maxHeartbeats 400000

theorem other_it {w w' : World} {g : Nat} {s : ByteArray} {p : Nat} {row : Option Nat} (h : It w g s p) (hg : w.grownBy w' row) (hr : some g ≠ row) : It w' g s p := (hg.block g h.lt hr).trans h
theorem other_mem {w w' : World} {g : Nat} {t : TypeId} {cs : Array Value} {row : Option Nat} (h : Mem w g t cs) (hg : w.grownBy w' row) (hr : some g ≠ row) : Mem w' g t cs := (hg.block g h.lt hr).trans h
theorem own_below {w w' : World} {B e size n : Nat} {v : Value} {xs : List Value} (h : w.ownsRow B e size v n xs) (hb : Below w.heap.size w w') : w'.ownsRow B e size v n xs :=
  h.kept (row := none) ⟨hb.os, hb.tape, hb.output, hb.size, fun i hi _ => hb.block i hi⟩ (by cases v.ownBlock <;> simp)

/-! ### Names. -/
def fnm (n : Nat) : ByteArray := ⟨(fnNames.getD n []).toArray⟩
theorem fn_cell {w : World} (h : Env w) (n : Nat) (hn : n < 22) : w.cell? ⟨2, n, none⟩ = some (.string (fnm n)) := by
  rw [h.names.cell, List.getElem?_toArray]
  unfold IsaE.strs fnm
  have hl : fnNames.length = 22 := by decide
  rw [List.getElem?_map, List.getElem?_eq_getElem (by omega), List.getD_eq_getElem?_getD, List.getElem?_eq_getElem (by omega)]
  rfl
theorem a_fname (n : Nat) (hn : n < 22) (w : World) (h : Env w) : Calls Tryz.prog 110 #[.int .i64 n] w fun e w' => e = .returned (.string (fnm n)) ∧ w = w' := by
  have hcell := fn_cell h n hn
  go_enter Tryz.func110, Tryz.ntmps110
  go_wp2
  go_ret
  exact ⟨rfl, rfl⟩
def opm (k : Nat) : ByteArray := ⟨(opNames.getD k []).toArray⟩
theorem shape_name {w : World} (h : Env w) (k : Nat) (hk : k < 18) : w.cell? ⟨0, k * 5, none⟩ = some (.string (opm k)) := by
  have := shape_cell h k 0 hk (by omega)
  rw [Nat.add_zero] at this
  rw [this]
  rcases op_cases hk with rfl | rfl | rfl | rfl | rfl | rfl | rfl | rfl | rfl | rfl | rfl | rfl | rfl | rfl | rfl | rfl | rfl | rfl <;> rfl
/-- The name of an instruction. -/
def nameV (k : Nat) (i : Int) : ByteArray := if k = 3 then fnm i.toNat else opm k
theorem a_name (k : Nat) (hk : k < 18) (a b c i : Int) (hi : k = 3 → 0 ≤ i ∧ i < 22) (w : World) (h : Env w) : Calls Tryz.prog 91 #[ins k a b c i] w fun e w' => e = .returned (.string (nameV k i)) ∧ Below w.heap.size w w' := by
  show Calls _ _ #[.agg _] _ _
  by_cases h3 : k = 3
  · subst h3
    obtain ⟨n, rfl⟩ := Int.eq_ofNat_of_zero_le (hi rfl).1
    have hn : n < 22 := by have := (hi rfl).2; omega
    have e : nameV 3 n = fnm n := by unfold nameV; rw [if_pos rfl, Int.toNat_natCast]
    rw [e]
    clear e hi hk
    go_enter Tryz.func91, Tryz.ntmps91
    go_wp2_with (go_at_call 110; refine (a_fname n hn _ (h.alloc _)).mono ?_; rintro e w1 ⟨rfl, rfl⟩)
    go_ret
    exact ⟨rfl, below_new _ _⟩
  · have e : nameV k i = opm k := by unfold nameV; rw [if_neg h3]
    rw [e]
    have q3 : ((k : Int) == 3) = false := by rw [beq_eq_false_iff_ne]; omega
    have hcell := fun o => shape_name (h.alloc o) k hk
    clear e hi h3
    go_enter Tryz.func91, Tryz.ntmps91
    go_wp2
    go_ret
    exact ⟨rfl, below_new _ _⟩

/-! ### Operands. -/
theorem env_tab {w : World} (h : Env w) : Lib.TabIs Tryz.prog w "internal/strconv.uint64pow10" .u64 Lib.pow10Tab := h.pow.var? (by kernel_rfl)
theorem a_itoa (n : Int) (h0 : -9223372036854775808 ≤ n) (h1 : n ≤ 9223372036854775807) (w : World) (h : Env w) : Calls Tryz.prog 41 #[.int .i64 n] w fun e w' => e = .returned (.string ⟨(Lib.itoa n).toArray⟩) ∧ Below w.heap.size w w' := by
  refine (Tryz.strconv_Itoa n h0 h1 w (env_tab h)).mono ?_
  rintro e w' ⟨rfl, k, os, rfl⟩
  exact ⟨rfl, below_grow _ _ _⟩
/-- The text of an operand. -/
def operL (l : UInt8) (x : Int) : List UInt8 := if l = 110 then Lib.itoa x else 114 :: Lib.itoa x
def operB (l : UInt8) (x : Int) : ByteArray := ⟨(operL l x).toArray⟩
theorem r_itoa (l : List UInt8) : (⟨#[114]⟩ : ByteArray) ++ ⟨l.toArray⟩ = ⟨(114 :: l).toArray⟩ := by
  apply ByteArray.ext
  simp
theorem a_operand (l : UInt8) (x : Int) (h0 : -9223372036854775808 ≤ x) (h1 : x ≤ 9223372036854775807) (w : World) (h : Env w) : Calls Tryz.prog 92 #[.int .i32 (l.toNat : Int), .int .i64 x] w fun e w' => e = .returned (.string (operB l x)) ∧ Below w.heap.size w w' := by
  by_cases hl : l = 110
  · subst hl
    have HE := Lib.hid (show operB 110 x = ⟨(Lib.itoa x).toArray⟩ from rfl)
    go_enter Tryz.func92, Tryz.ntmps92
    go_wp2_with (go_at_call 41; refine (a_itoa x h0 h1 _ h).mono ?_; rintro e w1 ⟨rfl, hb1⟩)
    go_ret
    exact ⟨by rw [HE.out]; rfl, hb1⟩
  · have HE := Lib.hid (show operB l x = ⟨#[114]⟩ ++ ⟨(Lib.itoa x).toArray⟩ by rw [r_itoa]; unfold operB operL; rw [if_neg hl])
    have q : ((l.toNat : Int) == 110) = false := by
      rw [beq_eq_false_iff_ne]
      intro e
      apply hl
      apply UInt8.toNat_inj.1
      show l.toNat = 110
      omega
    have hlen := Lib.itoa_length_le x h0 h1
    clear hl
    go_enter Tryz.func92, Tryz.ntmps92
    go_wp2_with (go_at_call 41; refine (a_itoa x h0 h1 _ h).mono ?_; rintro e w1 ⟨rfl, hb1⟩)
    go_ret
    exact ⟨by rw [HE.out]; rfl, hb1⟩

/-! ### Format. -/
def fldI (a b c i : Int) (l : UInt8) : Int := if l = 97 then a else if l = 98 then b else if l = 99 then c else i
theorem boxed_cellI {w : World} {g : Nat} {t : TypeId} {op a b c i : Int} (h : Mem w g t (boxed op a b c i)) {l : UInt8} (hl : l = 97 ∨ l = 98 ∨ l = 99 ∨ l = 110) : w.cell? ⟨g, fld l.toNat, none⟩ = some (.int .i64 (fldI a b c i l)) := by
  rw [h.cell]
  rcases hl with rfl | rfl | rfl | rfl <;> rfl
/-- The words of the text. -/
def wordsV (k : Nat) (a b c i : Int) : List ByteArray := nameV k i :: (letters k).map fun l => operB l (fldI a b c i l)
def joinB (ws : List ByteArray) : ByteArray := ⟨(Lib.join (ws.map (·.data.toList)) [32]).toArray⟩
def formatV (op a b c i : Int) : ByteArray := if chk op a b c i = 0 then joinB (wordsV op.toNat a b c i) else ⟨#[]⟩
theorem words_step {k p : Nat} {l : UInt8} {a b c i : Int} (e : (letters k).take (p + 1) = (letters k).take p ++ [l]) : (wordsV k a b c i).take (p + 1 + 1) = (wordsV k a b c i).take (p + 1) ++ [operB l (fldI a b c i l)] := by
  unfold wordsV
  rw [List.take_succ_cons, List.take_succ_cons, ← List.map_take, e, List.map_append, ← List.map_take]
  rfl
def InInt (x : Int) : Prop := -9223372036854775808 ≤ x ∧ x ≤ 9223372036854775807
theorem fldI_in {a b c i : Int} (ha : InInt a) (hb : InInt b) (hc : InInt c) (hi : InInt i) (l : UInt8) : InInt (fldI a b c i l) := by
  unfold fldI
  split
  · exact ha
  · split
    · exact hb
    · split
      · exact hc
      · exact hi
theorem name_len (k : Nat) (hk : k < 18) (i : Int) : (nameV k i).data.toList.length ≤ 7 := by
  unfold nameV
  have all1 : ∀ k : Fin 18, (opNames.getD k.val []).length ≤ 7 := by decide
  have all2 : ∀ k : Fin 22, (fnNames.getD k.val []).length ≤ 7 := by decide
  split
  · by_cases hn : i.toNat < 22
    · exact all2 ⟨_, hn⟩
    · unfold fnm
      rw [List.getD_eq_getElem?_getD, List.getElem?_eq_none (by show 22 ≤ _; omega)]
      simp
  · exact all1 ⟨k, hk⟩
theorem oper_len (l : UInt8) (x : Int) (h : InInt x) : (operB l x).data.toList.length ≤ 22 := by
  have := Lib.itoa_length_le x h.1 h.2
  unfold operB operL
  simp only []
  split
  · omega
  · simp; omega
theorem join_len (sep : List UInt8) (B : Nat) : ∀ (ws : List (List UInt8)), (∀ x ∈ ws, x.length ≤ B) → (Lib.join ws sep).length ≤ ws.length * (B + sep.length)
  | [], _ => by simp [Lib.join]
  | [x], h => by
    rw [Lib.join_one]
    have := h x (by simp)
    simp only [List.length_cons, List.length_nil]
    omega
  | x :: y :: r, h => by
    have ih := join_len sep B (y :: r) (fun z hz => h z (by simp [hz]))
    have hx := h x (by simp)
    have e : Lib.join (x :: y :: r) sep = x ++ (sep ++ Lib.join (y :: r) sep) := by
      rw [Lib.join_cons, Lib.join_cons]
      simp [Lib.joinTail]
    rw [e, List.length_append, List.length_append, List.length_cons, Nat.succ_mul]
    omega
theorem format_len (k : Nat) (hk : k < 18) (a b c i : Int) (ha : InInt a) (hb : InInt b) (hc : InInt c) (hi : InInt i) : (Lib.join ((wordsV k a b c i).map (·.data.toList)) [32]).length ≤ 92 := by
  have h := join_len [32] 22 ((wordsV k a b c i).map (·.data.toList)) (fun x hx => by
    obtain ⟨y, hy, rfl⟩ := List.mem_map.1 hx
    unfold wordsV at hy
    rcases List.mem_cons.1 hy with rfl | hy
    · have := name_len k hk i; omega
    · obtain ⟨l, _, rfl⟩ := List.mem_map.1 hy
      exact oper_len l _ (fldI_in ha hb hc hi l))
  have hl := letters_le k
  have hw : ((wordsV k a b c i).map (·.data.toList)).length ≤ 4 := by
    unfold wordsV
    simp
    omega
  have : ((wordsV k a b c i).map (·.data.toList)).length * (22 + 1) ≤ 4 * (22 + 1) := Nat.mul_le_mul_right _ hw
  exact Nat.le_trans h this

theorem boxed_cells {w : World} {g : Nat} {t : TypeId} {op a b c i : Int} (h : Mem w g t (boxed op a b c i)) : w.cell? ⟨g, 0, none⟩ = some (.int .i64 op) ∧ w.cell? ⟨g, 1, none⟩ = some (.int .i64 a) ∧ w.cell? ⟨g, 2, none⟩ = some (.int .i64 b) ∧ w.cell? ⟨g, 3, none⟩ = some (.int .i64 c) ∧ w.cell? ⟨g, 4, none⟩ = some (.int .i64 i) :=
  ⟨h.cell 0, h.cell 1, h.cell 2, h.cell 3, h.cell 4⟩
theorem str_of_own {w : World} {base : Nat} {e : TypeId} {v : Value} {n : Nat} {xs : List ByteArray} (h : w.ownsRow base e 1 v n (xs.map Value.string)) (hn : 0 < n) :
    ∃ g cap, v = .slice (some ⟨g, 0, none⟩) n cap ∧ base ≤ g ∧ g < w.heap.size ∧ n ≤ cap ∧ cap ≤ maxLen ∧ ∀ (j : Nat) x, xs[j]? = some x → w.cell? ⟨g, j, none⟩ = some (.string x) := by
  rcases h.2 with ⟨_, h0⟩ | ⟨g, cap, cur, rfl, hb, hg, hc, hm, hs, ht⟩
  · omega
  · refine ⟨g, cap, rfl, hb, lt_of_some hg, hc, hm, fun j x hx => ?_⟩
    have hj : j < xs.length := (List.getElem?_eq_some_iff.1 hx).1
    have hl := h.1
    rw [List.length_map, Nat.mul_one] at hl
    have := congrArg (fun l => l[j]?) ht
    simp only [Nat.mul_one, List.getElem?_map, hx, Option.map_some] at this
    rw [List.getElem?_take, if_pos (by omega), Array.getElem?_toList] at this
    simp [World.cell?, hg, this]
theorem a_format_no (op a b c i v : Int) (hv : chk op a b c i = v) (h0 : v = 10 ∨ v = 11) (w : World) (h : Env w) : Calls Tryz.prog 65 #[ins op a b c i] w fun e w' => e = .returned (.tuple #[.string ⟨#[]⟩, .int .i64 v]) ∧ Below w.heap.size w w' := by
  show Calls _ _ #[.agg _] _ _
  have HV := Lib.hid hv
  clear hv
  rcases h0 with rfl | rfl
  all_goals
    go_enter Tryz.func65, Tryz.ntmps65
    go_wp2_with (go_at_call 35; refine (a_check_v HV.out _ (h.alloc _)).mono ?_; rintro e w1 ⟨rfl, hb1⟩)
    go_ret2
    exact ⟨rfl, (below_new _ _).trans (hb1.mono (by simp))⟩
set_option maxRecDepth 100000 in
theorem a_format_yes (k : Nat) (hk : k < 18) (a b c i : Int) (ha : InInt a) (hbb : InInt b) (hc : InInt c) (hi : InInt i) (hn : k = 3 → 0 ≤ i ∧ i < 22) (hv : chk k a b c i = 0) (w : World) (h : Env w) :
    Calls Tryz.prog 65 #[ins k a b c i] w fun e w' => e = .returned (.tuple #[.string (joinB (wordsV k a b c i)), .int .i64 0]) ∧ Below w.heap.size w w' := by
  show Calls _ _ #[.agg _] _ _
  have HV := Lib.hid hv
  have HN := Lib.hid hn
  have HI := Lib.hid (fldI_in ha hbb hc hi)
  have HL := Lib.hid (format_len k hk a b c i ha hbb hc hi)
  clear hv hn ha hbb hc hi
  obtain ⟨i0, hi, hz0, hz1, hz2⟩ := info_parts info_string
  go_enter Tryz.func65, Tryz.ntmps65
  go_wp2_with fail
  refine (a_check_v HV.out _ (h.alloc _)).mono ?_
  rintro e w1 ⟨rfl, hb1⟩
  have hE1 : Env w1 := (h.alloc _).below hb1
  have hm1 : Mem w1 w.heap.size 40 (boxed k a b c i) := (Mem.new w 40 (boxed k a b c i)).below hb1 (by simp)
  have hbw := (below_new w (.cells (boxed k a b c i) 40)).trans (hb1.mono (by simp))
  obtain ⟨c0, c1, c2, c3, c4⟩ := boxed_cells hm1
  have hsz1 := hm1.lt
  clear hb1
  go_wp2_with fail
  refine (a_name k hk a b c i HN.out _ hE1).mono ?_
  rintro e w2 ⟨rfl, hb2⟩
  have hE2 : Env w2 := hE1.below hb2
  have hm2 : Mem w2 w.heap.size 40 (boxed k a b c i) := hm1.below hb2 hm1.lt
  have hbw2 := hbw.trans (hb2.mono (by omega))
  have hsz2 := hb2.size
  have hcell := fun o => shape_letters (hE2.alloc o) k hk
  have hop : ∀ o, (w2.alloc o).cell? ⟨w.heap.size, 0, none⟩ = some (.int .i64 k) := fun o => (hm2.alloc o).cell 0
  clear c0 c1 c2 c3 c4 hb2 hE1 hm1 hbw
  go_wp2
  go_loopw [5] (fun v wr => ∃ p, p ≤ (letters k).length ∧ It wr (w2.heap.size + 1) (lettersB k) p ∧ Mem wr w.heap.size 40 (boxed k a b c i) ∧ wr.ownsRow (w.heap.size + 1) 9 1 v (p + 1) (((wordsV k a b c i).take (p + 1)).map Value.string) ∧ Below w.heap.size w wr ∧ w2.heap.size + 1 < wr.heap.size) (fun _ wr => (letters k).length - wr.iterPos (w2.heap.size + 1))
  case atStart =>
    refine ⟨0, Nat.zero_le _, it_new1 _ _ _, (hm2.alloc _).alloc _, ?_, ?_, ?_⟩
    · exact (World.ownsRow_lit w2 #[.string (nameV k i)] 1 (by omega) (by unfold maxLen; omega) rfl).alloc _
    · exact (hbw2.alloc (by omega) _).alloc (by rw [size_new]; omega) _
    · show _ < ((w2.alloc _).alloc _).heap.size
      rw [size_new, size_new]; omega
  case round =>
    obtain ⟨p, hp, hit, hm, hown, hb, hsz⟩ := hrel
    clear hcell hop hm2 hbw2 hE2
    by_cases hlt : p < (letters k).length
    · obtain ⟨l, hl, hfr, hts, hs⟩ := letter_at k p hlt
      have hnx := next_letter k p l hlt hl hs hit
      have hm2 := hm.iterAt (k := w2.heap.size + 1) (s := lettersB k) (q := p + 1) (by omega)
      have hit2 := hit.on (p + 1)
      have hown2 := own_iterAt hown hit (p + 1)
      have hb2 := below_iter hb (k := w2.heap.size + 1) (by omega) (lettersB k) (p + 1)
      have hld := boxed_cellI hm2 hl
      have hvs := Lib.hid (words_step (a := a) (b := b) (c := c) (i := i) hts)
      have hpos := Lib.hid hit.pos
      have hu2 := letters_le k
      have hszr := Lib.hid (Lib.iterAt_size wr (w2.heap.size + 1) (lettersB k) (p + 1))
      have hE2 : Env (wr.iterAt (w2.heap.size + 1) (lettersB k) (p + 1)) := h.below hb2
      obtain ⟨x, hx⟩ : ∃ x, fldI a b c i l = x := ⟨_, rfl⟩
      have HX : InInt x := hx ▸ HI.out l
      rw [hx] at hld hvs
      obtain ⟨f, hf⟩ : ∃ f, fld l.toNat = f := ⟨_, rfl⟩
      rw [hf] at hld
      have HF := Lib.hid hf
      clear hx hf hs hts hl hfr
      go_wp2_with (go_at_call 63; refine (a_field_any _ _ f HF.out _).mono ?_; rintro e w3 ⟨rfl, rfl⟩)
      refine (a_operand l x HX.1 HX.2 _ hE2).mono ?_
      rintro e w3 ⟨rfl, hb3⟩
      have hm3 := hm2.below hb3 (by rw [hszr.out]; omega)
      have hit3 := hit2.below hb3 (by rw [hszr.out]; omega)
      have hown3 := own_below hown2 hb3
      have hbw3 := hb2.trans (hb3.mono (by rw [hszr.out]; omega))
      have hsz3 : wr.heap.size ≤ w3.heap.size := by have := hb3.size; rw [hszr.out] at this; exact this
      clear hb3 hm2 hit2 hown2 hb2 hE2 hnx hld
      go_wp2_with (at_builtin; refine wpList_append_own _ rfl _ _ 43 rfl (w.heap.size + 1) 9 i0 (.string ⟨#[]⟩) 1 16 Tryz.underlying43 hi hz0 hz1 hz2 rfl (by decide) _ _ _ rfl (hown3.alloc _) ⟨w3.heap.size, 0, none⟩ 1 1 [.string (operB l x)] rfl rfl (cell_one_new _ _ _) ?c2 ?c3 ?c4 ?c5 ?_)
      case c2 => intro u hu; simp at hu; subst hu; rfl
      case c3 => unfold maxLen; omega
      case c4 => omega
      case c5 => rw [size_new]; omega
      intro v' w4 hown4 hg4 _
      have hrow : ∀ q, u5.ownBlock = some q → w.heap.size < q := fun q hq => by have := (hown3.lt q hq).1; omega
      have hm4 := grown_mem (hm3.alloc _) hg4 hrow
      have hit4 := other_it (hit3.alloc _) hg4 (own_ne_iter hown3 hit3)
      have hb4 := grown_below (hbw3.alloc (by omega) _) hg4 (by rw [size_new]; omega) (fun q hq => by have := hrow q hq; omega)
      have hsz4 : w2.heap.size + 1 < w4.heap.size := by have := hg4.size; rw [size_new] at this; omega
      have hown5 : w4.ownsRow (w.heap.size + 1) 9 1 v' (p + 1 + 1) ((List.take (p + 1 + 1) (wordsV k a b c i)).map Value.string) := by
        rw [hvs.out, List.map_append, List.map_take]
        exact hown4
      clear hown4 hown3 hm3 hit3 hbw3 hg4 hrow
      go_wp2
      go_roundw
      case rel => exact ⟨p + 1, hlt, hit4, hm4, hown5, hb4, hsz4⟩
      case measure => exact meas hit4.pos hpos.out hlt
    · have hpe : p = (letters k).length := by omega
      have hnx := next_end k p hlt hit
      have hlw : (wordsV k a b c i).length = p + 1 := by unfold wordsV; rw [List.length_cons, List.length_map, hpe]
      rw [List.take_of_length_le (by omega)] at hown
      obtain ⟨g, cap, hv5, hbg, hlg, hcap, hmx, hH⟩ := str_of_own hown (by omega)
      subst hv5
      have HW := Lib.hid hlw
      have hu2 := letters_le k
      clear hit hm hown hpe hlw
      go_wp2_with fail
      have hjn := Tryz.strings_Join g 0 cap (wordsV k a b c i) ⟨#[32]⟩ wr (fun j x hx => by rw [Nat.zero_add]; exact hH j x hx) hlg (by rw [HW.out]; omega) (by rw [HW.out]; exact hcap) (Nat.le_trans HL.out (by decide))
      rw [HW.out] at hjn
      refine hjn.mono ?_
      rintro e w5 ⟨rfl, hb5⟩
      have hb6 := hb.trans (hb5.mono (by omega))
      go_wp2
      go_ret2
      exact ⟨rfl, hb6⟩
/-- Format returns the text and the error of the document. -/
theorem a_format (op a b c i : Int) (ha : InInt a) (hb : InInt b) (hc : InInt c) (hi : InInt i) (w : World) (h : Env w) :
    Calls Tryz.prog 65 #[ins op a b c i] w fun e w' => e = .returned (.tuple #[.string (formatV op a b c i), .int .i64 (chk op a b c i)]) ∧ Below w.heap.size w w' := by
  rcases chk_cases op a b c i with ⟨h0, h1, h2⟩ | h0 | h0
  · obtain ⟨k, rfl⟩ := Int.eq_ofNat_of_zero_le h1
    have e : formatV k a b c i = joinB (wordsV k a b c i) := by unfold formatV; rw [if_pos h0, Int.toNat_natCast]
    rw [e, h0]
    refine a_format_yes k (by omega) a b c i ha hb hc hi (fun h3 => ?_) h0 w h
    subst h3
    have hf : fit 3 a b c i = true := by
      rw [chk_in 3 (by omega)] at h0
      unfold chkV at h0
      split at h0
      · assumption
      · cases h0
    unfold fit at hf
    rw [Bool.and_eq_true, Bool.and_eq_true, decide_eq_true_eq, decide_eq_true_eq] at hf
    have h3 := hf.1
    have l3 : loI 3 = 0 := rfl
    have u3 : hiI 3 = 21 := rfl
    omega
  all_goals
    have e : formatV op a b c i = ⟨#[]⟩ := by unfold formatV; rw [if_neg (by omega)]
    rw [e, h0]
    exact a_format_no op a b c i _ h0 (by omega) w h
end Go.Proofs.YtcplhochgngedaaGreatDoor.IsaF
