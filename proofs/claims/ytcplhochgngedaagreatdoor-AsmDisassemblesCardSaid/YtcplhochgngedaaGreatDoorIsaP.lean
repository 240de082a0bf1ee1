/-
  Contracts of the functions of package isa that read texts.
-/
import Derived.Test.YtcplhochgngedaaGreatDoorIsaF
namespace Go.Proofs.YtcplhochgngedaaGreatDoor.IsaP
open Go.ChangeShapes Go.WideShapes Go.ChangeAt Go.RowKit
open PlainT IsaE IsaS BlkW IsaA IsaB IsaF
set_option linter.unusedVariables false
set_option maxHeartbeats 400000

/-! ### A register. -/
def bts (s : ByteArray) : List UInt8 := s.data.toList
theorem bytes_len (s : ByteArray) : (bts s).length = s.size := by unfold bts; rw [Array.length_toList]; rfl
/-- What readRegister returns: the number of the register; what stands beside false is left open. -/
def RegIs (s : ByteArray) (w : World) (e : Ending) (w' : World) : Prop :=
  w = w' ∧ ∃ v, e = .returned (.tuple #[.int .i64 v, .bool (regOf (bts s)).isSome]) ∧ ∀ u, regOf (bts s) = some u → v = u
theorem regOf_len {l : List UInt8} (h : l.length ≠ 2) : regOf l = none := by
  unfold regOf
  split
  · simp at h
  · rfl
theorem RegIs.none {s : ByteArray} {w : World} {v : Int} (h : regOf (bts s) = none) : RegIs s w (.returned (.tuple #[.int .i64 v, .bool false])) w := by
  refine ⟨rfl, v, ?_, fun u hu => ?_⟩
  · rw [h]; rfl
  · rw [h] at hu; cases hu
theorem RegIs.at {s : ByteArray} {w : World} {x y : UInt8} {r : Bool} (h : bts s = [x, y]) (hx : x.toNat = 114) (hr : reg ((y.toNat : Int) - 48) = r) : RegIs s w (.returned (.tuple #[.int .i64 ((y.toNat : Int) - 48), .bool r])) w := by
  have key : regOf (bts s) = if 48 ≤ y.toNat ∧ y.toNat ≤ 55 then some ((y.toNat : Int) - 48) else .none := by
    rw [h]
    unfold regOf
    simp only [hx, true_and]
  unfold reg at hr
  subst hr
  by_cases hy : 48 ≤ y.toNat ∧ y.toNat ≤ 55
  · rw [if_pos hy] at key
    refine ⟨rfl, (y.toNat : Int) - 48, ?_, fun u hu => ?_⟩
    · rw [key, decide_eq_true (by omega)]; rfl
    · rw [key] at hu; injection hu
  · rw [if_neg hy] at key
    rw [decide_eq_false (by omega)]
    exact RegIs.none key
theorem a_readRegister (s : ByteArray) (w : World) : Calls Tryz.prog 136 #[.string s] w fun e w' => RegIs s w e w' := by
  by_cases h2 : s.size = 2
  · have hb : (bts s).length = 2 := by rw [bytes_len]; exact h2
    have h0 : 0 < s.size := by omega
    have h1 : 1 < s.size := by omega
    have hl : bts s = [s[0]'h0, s[1]'h1] := by
      apply List.ext_getElem hb
      intro i hi _
      have : i = 0 ∨ i = 1 := by rw [hb] at hi; omega
      rcases this with rfl | rfl <;> rfl
    obtain ⟨x, hx⟩ : ∃ x, s[0]'h0 = x := ⟨_, rfl⟩
    obtain ⟨y, hy⟩ : ∃ y, s[1]'h1 = y := ⟨_, rfl⟩
    rw [hx, hy] at hl
    have HL := Lib.hid hl
    have hyb := y.toNat_lt
    clear hl hb
    by_cases h114 : x.toNat = 114
    · have q : ((x.toNat : Int) != 114) = false := by simp [h114]
      cases hr : reg ((y.toNat : Int) - 48)
      all_goals
        have HR := Lib.hid hr
        clear hr
        go_enter Tryz.func136, Tryz.ntmps136
        go_wp2_with (go_at_call 64; refine (a_register _ _ HR.out _).mono ?_; rintro e w1 ⟨rfl, rfl⟩)
        go_ret2
        exact RegIs.at HL.out h114 HR.out
    · have q : ((x.toNat : Int) != 114) = true := by simp; omega
      have hn := Lib.hid (show regOf (bts s) = none by rw [HL.out]; unfold regOf; simp only; rw [if_neg (by omega)])
      go_enter Tryz.func136, Tryz.ntmps136
      go_wp2
      go_ret2
      exact RegIs.none hn.out
  · have q : ((s.size : Int) != 2) = true := by simp; omega
    have hn := Lib.hid (regOf_len (l := bts s) (by rw [bytes_len]; exact h2))
    clear h2
    go_enter Tryz.func136, Tryz.ntmps136
    go_wp2
    go_ret2
    exact RegIs.none hn.out

/-! ### A number. -/
def NumIs (s : ByteArray) (w : World) (e : Ending) (w' : World) : Prop :=
  Below w.heap.size w w' ∧ ∃ v, e = .returned (.tuple #[.int .i64 v, .bool (num (bts s)).isSome]) ∧ ∀ u, num (bts s) = some u → v = u
theorem NumIs.none {s : ByteArray} {w w' : World} {v : Int} (h : num (bts s) = none) (hb : Below w.heap.size w w') : NumIs s w (.returned (.tuple #[.int .i64 v, .bool false])) w' := by
  refine ⟨hb, v, ?_, fun u hu => ?_⟩
  · rw [h]; rfl
  · rw [h] at hu; cases hu
theorem NumIs.some {s : ByteArray} {w w' : World} {v : Int} (h : num (bts s) = some v) (hb : Below w.heap.size w w') : NumIs s w (.returned (.tuple #[.int .i64 v, .bool true])) w' := by
  refine ⟨hb, v, ?_, fun u hu => ?_⟩
  · rw [h]; rfl
  · rw [h] at hu; injection hu
theorem a_plus (s : ByteArray) (v : Bool) (hv : Lib.hasPrefix (bts s) [43] = v) (w : World) : Calls Tryz.prog 30 #[.string s, .string ⟨#[43]⟩] w fun e w' => e = .returned (.bool v) ∧ w = w' := by
  subst hv
  exact (Tryz.strings_HasPrefix s ⟨#[43]⟩ w).mono fun e w' ⟨he, hw⟩ => ⟨he, hw.symm⟩
/-- What Atoi returns: no error, or one that is not nil. -/
def AtoiIs (s : ByteArray) (w : World) (e : Ending) (w' : World) : Prop :=
  Below w.heap.size w w' ∧ ((∃ v, Lib.atoiAll (bts s) = .ok v ∧ e = .returned (.tuple #[.int .i64 v, .nilIface])) ∨
    ((∀ v, Lib.atoiAll (bts s) ≠ .ok v) ∧ ∃ v a, e = .returned (.tuple #[.int .i64 v, .iface 177 (.pointer (some a))])))
theorem a_atoi (s : ByteArray) (hs : s.size ≤ 281474976710656) (w : World) (h : Env w) : Calls Tryz.prog 139 #[.string s] w fun e w' => AtoiIs s w e w' := by
  cases ha : Lib.atoiAll (bts s)
  case ok v =>
    refine (Tryz.strconv_Atoi_ok s (by omega) v ha w).mono ?_
    rintro e w' ⟨rfl, rfl | ⟨t, rfl⟩⟩
    · exact ⟨Below.refl _ _, .inl ⟨v, ha, rfl⟩⟩
    · exact ⟨Lib.bytesWorld_below _ _ _, .inl ⟨v, ha, rfl⟩⟩
  case range =>
    obtain ⟨t, a, hv⟩ := h.rng
    refine (Tryz.strconv_Atoi_range_var s hs ha t _ w (hv.var? (by kernel_rfl))).mono ?_
    rintro e w' ⟨N, rfl, _, _, hb⟩
    exact ⟨hb, .inr ⟨fun v => by rw [ha]; simp, _, _, rfl⟩⟩
  · obtain ⟨t, a, hv⟩ := h.syn
    refine (Tryz.strconv_Atoi_syntax_var s hs ha t _ w (hv.var? (by kernel_rfl))).mono ?_
    rintro e w' ⟨N, rfl, _, _, hb⟩
    exact ⟨hb, .inr ⟨fun v => by rw [ha]; simp, _, _, rfl⟩⟩
theorem a_readNumber (s : ByteArray) (hs : s.size ≤ 281474976710656) (w : World) (h : Env w) : Calls Tryz.prog 135 #[.string s] w fun e w' => NumIs s w e w' := by
  cases hp : Lib.hasPrefix (bts s) [43]
  · have HP := Lib.hid hp
    have hh := Lib.hid (num_atoi (bts s) (fun c hc => by
      intro e
      have : Lib.hasPrefix (bts s) [43] = true := by
        cases hb : bts s with
        | nil => rw [hb] at hc; cases hc
        | cons x r =>
          rw [hb] at hc
          injection hc with hc
          subst hc
          have : x = 43 := UInt8.toNat_inj.1 e
          subst this
          simp [Lib.hasPrefix]
      rw [hp] at this
      cases this))
    clear hp
    go_enter Tryz.func135, Tryz.ntmps135
    go_wp2_with (go_at_call 30; refine (a_plus s false HP.out _).mono ?_; rintro e w1 ⟨rfl, rfl⟩)
    refine (a_atoi s hs _ h).mono ?_
    rintro e w1 ⟨hb, ⟨v, hv, rfl⟩ | ⟨hv, v, a, rfl⟩⟩
    · have hn := Lib.hid (hh.out.trans (by rw [hv]))
      clear hv
      go_wp2
      go_quiet (fail)
      go_wp2
      go_ret2
      exact NumIs.some hn.out (below_drewN hb _)
    · have hn := Lib.hid (show num (bts s) = none by
        rw [hh.out]
        cases ha : Lib.atoiAll (bts s) with
        | ok v => exact absurd ha (hv v)
        | _ => rfl)
      clear hv
      go_wp2
      go_quiet (fail)
      go_wp2
      go_ret2
      exact NumIs.none hn.out (below_drewN hb _)
  · have HP := Lib.hid hp
    have hn := Lib.hid (show num (bts s) = none by
      cases hb : bts s with
      | nil => rfl
      | cons x r =>
        rw [hb] at hp
        simp [Lib.hasPrefix] at hp
        exact num_plus r x (by rw [← hp]; rfl))
    clear hp
    go_enter Tryz.func135, Tryz.ntmps135
    go_wp2_with (go_at_call 30; refine (a_plus s true HP.out _).mono ?_; rintro e w1 ⟨rfl, rfl⟩)
    go_ret2
    exact NumIs.none hn.out (Below.refl _ _)

/-! ### An operand. -/
def operOf (l : UInt8) (t : List UInt8) : Option Int := if l = 110 then num t else regOf t
def OperIs (l : UInt8) (s : ByteArray) (w : World) (e : Ending) (w' : World) : Prop :=
  Below w.heap.size w w' ∧ ∃ v, e = .returned (.tuple #[.int .i64 v, .bool (operOf l (bts s)).isSome]) ∧ ∀ u, operOf l (bts s) = some u → v = u
theorem letter_ne {l : UInt8} (h : l ≠ 110) : ((l.toNat : Int) == 110) = false := by
  rw [beq_eq_false_iff_ne]
  intro e
  apply h
  apply UInt8.toNat_inj.1
  show l.toNat = 110
  omega
theorem a_readOperand (l : UInt8) (s : ByteArray) (hs : s.size ≤ 281474976710656) (w : World) (h : Env w) : Calls Tryz.prog 124 #[.int .i32 (l.toNat : Int), .string s] w fun e w' => OperIs l s w e w' := by
  by_cases hl : l = 110
  · subst hl
    have HO := Lib.hid (show operOf 110 (bts s) = num (bts s) from rfl)
    go_enter Tryz.func124, Tryz.ntmps124
    go_wp2_with fail
    refine (a_readNumber s hs _ h).mono ?_
    rintro e w1 ⟨hb, v, rfl, hv⟩
    go_wp2
    go_ret2
    exact ⟨hb, v, by rw [HO.out]; rfl, fun u hu => hv u (by rw [← HO.out]; exact hu)⟩
  · have HO := Lib.hid (show operOf l (bts s) = regOf (bts s) by unfold operOf; rw [if_neg hl])
    have q := letter_ne hl
    clear hl
    go_enter Tryz.func124, Tryz.ntmps124
    go_wp2_with fail
    refine (a_readRegister s _).mono ?_
    rintro e w1 ⟨rfl, v, rfl, hv⟩
    go_wp2
    go_ret2
    exact ⟨Below.refl _ _, v, by rw [HO.out]; rfl, fun u hu => hv u (by rw [← HO.out]; exact hu)⟩

/-! ### The name. -/
/-- The function with this name. -/
def fnOf (t : List UInt8) : Option Nat := fnNames.findIdx? (· == t)
/-- The operation with this name (the name of the functions' operation is empty). -/
def opOf (t : List UInt8) : Option Nat := opNames.findIdx? (· == t)
/-- The operation and Imm that a name stands for. -/
def named (t : List UInt8) : Option (Nat × Int) := match fnOf t with | some n => some (3, (n : Int)) | none => (opOf t).map fun k => (k, 0)
def Un (L : List (List UInt8)) (t : List UInt8) (k : Nat) : Prop := ∀ j, j < k → L.getD j [] ≠ t
theorem Un.zero (L : List (List UInt8)) (t : List UInt8) : Un L t 0 := fun j h => absurd h (by omega)
theorem Un.next {L : List (List UInt8)} {t : List UInt8} {k : Nat} (h : Un L t k) (hk : L.getD k [] ≠ t) : Un L t (k + 1) := fun j hj => by
  by_cases e : j = k
  · subst e; exact hk
  · exact h j (by omega)
theorem find_at {L : List (List UInt8)} {t : List UInt8} {k : Nat} (hk : k < L.length) (h : L.getD k [] = t) (hu : Un L t k) : L.findIdx? (· == t) = some k := by
  rw [List.findIdx?_eq_some_iff_getElem]
  rw [List.getD_eq_getElem?_getD, List.getElem?_eq_getElem hk, Option.getD_some] at h
  refine ⟨hk, by simp [h], fun j hj => ?_⟩
  have := hu j hj
  rw [List.getD_eq_getElem?_getD, List.getElem?_eq_getElem (by omega), Option.getD_some] at this
  simpa using this
theorem find_none {L : List (List UInt8)} {t : List UInt8} (hu : Un L t L.length) : L.findIdx? (· == t) = none := by
  rw [List.findIdx?_eq_none_iff]
  intro x hx
  obtain ⟨j, hj, rfl⟩ := List.getElem_of_mem hx
  have := hu j hj
  rw [List.getD_eq_getElem?_getD, List.getElem?_eq_getElem hj, Option.getD_some] at this
  simpa using this
theorem bytes_mk (l : List UInt8) : bts ⟨l.toArray⟩ = l := by unfold bts; simp
theorem bytes_inj {a b : ByteArray} (h : bts a = bts b) : a = b := by
  cases a; cases b
  exact congrArg ByteArray.mk (Array.toList_inj.1 h)
theorem str_ne {a b : ByteArray} (h : bts a ≠ bts b) : (a.toList == b.toList) = false := by
  rw [beq_eq_false_iff_ne, ByteArray.toList_eq, ByteArray.toList_eq]
  exact h

def FnIs (s : ByteArray) (w : World) (e : Ending) (w' : World) : Prop := w = w' ∧ e = .returned (.tuple #[.int .i64 ((fnOf (bts s)).getD 0 : Nat), .bool (fnOf (bts s)).isSome])
theorem fn_index (k : Nat) (hk : k < 22) (w : World) : (Instr.index 160 (.agg (IsaE.strs fnNames).toArray) (.int .i64 k)).run Tryz.prog w = .ok (.string (fnm k)) w := by
  have hc : k = 0 ∨ k = 1 ∨ k = 2 ∨ k = 3 ∨ k = 4 ∨ k = 5 ∨ k = 6 ∨ k = 7 ∨ k = 8 ∨ k = 9 ∨ k = 10 ∨ k = 11 ∨ k = 12 ∨ k = 13 ∨ k = 14 ∨ k = 15 ∨ k = 16 ∨ k = 17 ∨ k = 18 ∨ k = 19 ∨ k = 20 ∨ k = 21 := by omega
  rcases hc with rfl | rfl | rfl | rfl | rfl | rfl | rfl | rfl | rfl | rfl | rfl | rfl | rfl | rfl | rfl | rfl | rfl | rfl | rfl | rfl | rfl | rfl
  all_goals
    show _ = _
    kernel_rfl
theorem a_number (s : ByteArray) (w : World) (h : Env w) : Calls Tryz.prog 134 #[.string s] w fun e w' => FnIs s w e w' := by
  obtain ⟨_, tt, fr, hg⟩ := h.names
  obtain ⟨cellA, hA⟩ : ∃ cellA, (IsaE.strs fnNames).toArray = cellA := ⟨_, rfl⟩
  have hidx := fun k hk w => fn_index k hk w
  rw [hA] at hg hidx
  have HA := Lib.hid hA
  have HX := Lib.hid hidx
  clear hA hidx
  go_enter Tryz.func134, Tryz.ntmps134
  go_wp2_with (refine wpList_load_row rfl 160 _ rfl 2 rfl tt _ fr _ hg Tryz.underlying160 rfl (by rw [← HA.out]; kernel_rfl) ?_)
  clear hg
  go_loop [7] (fun i => ∃ k : Nat, k ≤ 22 ∧ i = .int .i64 k ∧ Un fnNames (bts s) k) (fun i => 22 - (intOf i).toNat)
  case atStart => exact ⟨0, by omega, rfl, Un.zero _ _⟩
  case round =>
    obtain ⟨k, hk, rfl, hu⟩ := hrel
    by_cases hlt : k < 22
    · have hi := HX.out k hlt
      have hfb : bts (fnm k) = fnNames.getD k [] := bytes_mk _
      by_cases he : fnm k = s
      · have hf := Lib.hid (find_at (L := fnNames) (t := bts s) (by show k < 22; omega) (by rw [← hfb, he]) hu)
        clear hfb
        subst he
        go_wp2
        go_ret2
        exact ⟨rfl, by unfold fnOf; rw [hf.out]; rfl⟩
      · have hq := str_ne (a := fnm k) (b := s) (fun e => he (bytes_inj e))
        have hn := Un.next hu (by rw [← hfb]; exact fun e => he (bytes_inj e))
        clear he hfb
        go_wp2
        go_round
        case rel => exact ⟨k + 1, by omega, by go_num, hn⟩
        case measure => simp [intOf]; omega
    · have hk' : k = 22 := by omega
      subst hk'
      have hf := Lib.hid (find_none (L := fnNames) hu)
      go_wp2
      go_ret2
      exact ⟨rfl, by unfold fnOf; rw [hf.out]; rfl⟩

/-- What named returns. -/
def insOf (r : Option (Nat × Int)) : Value := match r with | some (k, i) => ins k 0 0 0 i | none => ins 0 0 0 0 0
def NamedIs (s : ByteArray) (w : World) (e : Ending) (w' : World) : Prop := Below w.heap.size w w' ∧ e = .returned (.tuple #[insOf (named (bts s)), .bool (named (bts s)).isSome])
def shapeAt (k : Nat) : Value := .agg #[.string (opm k), .string (lettersB k), .string (usesB k), .bool (opSets.getD k false), .int .i64 (opPlaces.getD k 0)]
theorem shape_index (k : Nat) (hk : k < 18) (w : World) : (Instr.index 109 (.agg shapeCells.toArray) (.int .i64 k)).run Tryz.prog w = .ok (shapeAt k) w := by
  rcases op_cases hk with rfl | rfl | rfl | rfl | rfl | rfl | rfl | rfl | rfl | rfl | rfl | rfl | rfl | rfl | rfl | rfl | rfl | rfl
  all_goals
    show _ = _
    kernel_rfl
theorem mem_store5 {w : World} {g : Nat} {t : TypeId} {cs : Array Value} (h : Mem w g t cs) (hs : cs.size = 5) (v0 v1 v2 v3 v4 : Value) :
    Mem (((((w.setCell ⟨g, 0, none⟩ v0).setCell ⟨g, 1, none⟩ v1).setCell ⟨g, 2, none⟩ v2).setCell ⟨g, 3, none⟩ v3).setCell ⟨g, 4, none⟩ v4) g t #[v0, v1, v2, v3, v4] := by
  have := ((((h.set_ 0 v0).set_ 1 v1).set_ 2 v2).set_ 3 v3).set_ 4 v4
  obtain ⟨l⟩ := cs
  match l, hs with
  | [a, b, c, d, e], _ => exact this
theorem below_store5 {B g : Nat} {a w : World} (h : Below B a w) (hg : B ≤ g) (v0 v1 v2 v3 v4 : Value) :
    Below B a (((((w.setCell ⟨g, 0, none⟩ v0).setCell ⟨g, 1, none⟩ v1).setCell ⟨g, 2, none⟩ v2).setCell ⟨g, 3, none⟩ v3).setCell ⟨g, 4, none⟩ v4) :=
  ((((h.setCell hg v0).setCell hg v1).setCell hg v2).setCell hg v3).setCell hg v4
theorem a_named (s : ByteArray) (hne : bts s ≠ []) (w : World) (h : Env w) : Calls Tryz.prog 123 #[.string s] w fun e w' => NamedIs s w e w' := by
  have HNE := Lib.hid hne
  clear hne
  cases hf : fnOf (bts s) with
  | some n =>
    have hn := Lib.hid (show named (bts s) = some (3, (n : Int)) by unfold named; rw [hf])
    have HF := Lib.hid hf
    clear hf
    go_enter Tryz.func123, Tryz.ntmps123
    go_wp2_with (go_at_call 134; refine (a_number s _ (h.alloc _)).mono ?_; rintro e w1 ⟨rfl, rfl⟩; rw [HF.out])
    refine bodyPost_ret (v := .tuple #[insOf (named (bts s)), .bool (named (bts s)).isSome]) ?_ rfl ⟨below_new _ _, rfl⟩
    rw [hn.out]
    simp [results, Tryz.results123, go_sem, insOf]
  | none =>
    have HF := Lib.hid hf
    have hn := Lib.hid (show named (bts s) = (opOf (bts s)).map fun k => (k, (0 : Int)) by unfold named; rw [hf])
    clear hf
    have hidx := fun (k : Nat) (hk : k < 18) (w : World) => shape_index k hk w
    obtain ⟨_, tt, fr, hg⟩ := h.shapes
    obtain ⟨cellA, hA⟩ : ∃ cellA, shapeCells.toArray = cellA := ⟨_, rfl⟩
    have HA := Lib.hid hA
    rw [hA] at hg hidx
    have HX := Lib.hid hidx
    clear hA hidx
    have hg2 : ∀ o, (w.alloc o).heap[0]? = some (.cells cellA tt fr) := fun o => (BlkW.heap_alloc_old w o _ (lt_of_some hg)).trans hg
    clear hg
    go_enter Tryz.func123, Tryz.ntmps123
    go_wp2_with (first | (go_at_call 134; refine (a_number s _ (h.alloc _)).mono ?_; rintro e w1 ⟨rfl, rfl⟩; rw [HF.out]) | (refine wpList_load_row rfl 109 _ rfl 0 rfl tt _ fr _ (hg2 _) Tryz.underlying109 rfl (by rw [← HA.out]; kernel_rfl) ?_))
    clear hg2
    go_loopw [17] (fun i wr => ∃ k : Nat, k ≤ 18 ∧ i = .int .i64 k ∧ Un opNames (bts s) k ∧ Mem wr w.heap.size 40 #[.int .i64 0, .int .i64 0, .int .i64 0, .int .i64 0, .int .i64 0] ∧ Below w.heap.size w wr) (fun i _ => 18 - (intOf i).toNat)
    case atStart => exact ⟨0, by omega, rfl, Un.zero _ _, Mem.new _ _ _, below_new _ _⟩
    case round =>
      obtain ⟨k, hk, rfl, hu, hm, hb⟩ := hrel
      obtain ⟨z0, z1, z2, z3, z4⟩ := boxed_cells (op := 0) (a := 0) (b := 0) (c := 0) (i := 0) hm
      have hfz := hm.frozen
      have hlt0 := hm.lt
      by_cases hlt : k < 18
      · have hi := HX.out k hlt
        unfold shapeAt at hi
        have hfb : bts (opm k) = opNames.getD k [] := bytes_mk _
        by_cases he : opm k = s
        · have hf := Lib.hid (find_at (L := opNames) (t := bts s) (by show k < 18; omega) (by rw [← hfb, he]) hu)
          clear hfb
          subst he
          have Y := Lib.hid (fun o => boxed_cells (op := k) (a := 0) (b := 0) (c := 0) (i := 0) ((mem_store5 hm rfl (.int .i64 k) (.int .i64 0) (.int .i64 0) (.int .i64 0) (.int .i64 0)).alloc o))
          have hb2 := below_store5 hb (Nat.le_refl _) (.int .i64 k) (.int .i64 0) (.int .i64 0) (.int .i64 0) (.int .i64 0)
          go_wp2
          refine bodyPost_ret (v := .tuple #[insOf (named (bts (opm k))), .bool (named (bts (opm k))).isSome]) ?_ rfl ⟨?_, rfl⟩
          · rw [hn.out]
            unfold opOf
            rw [hf.out]
            simp [results, Tryz.results123, go_sem, insOf, (Y.out _).1, (Y.out _).2.1, (Y.out _).2.2.1, (Y.out _).2.2.2.1, (Y.out _).2.2.2.2]
          · exact hb2.alloc (by simp; omega) _
        · have hq := str_ne (a := opm k) (b := s) (fun e => he (bytes_inj e))
          have hn := Un.next hu (by rw [← hfb]; exact fun e => he (bytes_inj e))
          clear he hfb
          go_wp2
          go_roundw
          case rel => exact ⟨k + 1, by omega, by go_num, hn, (hm.alloc _), hb.alloc (by omega) _⟩
          case measure => simp [intOf]; omega
      · have hk' : k = 18 := by omega
        subst hk'
        have hf := Lib.hid (find_none (L := opNames) hu)
        have hst := mem_store5 hm rfl (.int .i64 0) (.int .i64 0) (.int .i64 0) (.int .i64 0) (.int .i64 0)
        obtain ⟨y0, y1, y2, y3, y4⟩ := boxed_cells (op := 0) (a := 0) (b := 0) (c := 0) (i := 0) hst
        have hb2 := below_store5 hb (Nat.le_refl _) (.int .i64 0) (.int .i64 0) (.int .i64 0) (.int .i64 0) (.int .i64 0)
        clear hst
        go_wp2
        refine bodyPost_ret (v := .tuple #[insOf (named (bts s)), .bool (named (bts s)).isSome]) ?_ rfl ⟨?_, rfl⟩
        · rw [hn.out]
          unfold opOf
          rw [hf.out]
          simp [results, Tryz.results123, go_sem, insOf, y0, y1, y2, y3, y4]
        · exact hb2
end Go.Proofs.YtcplhochgngedaaGreatDoor.IsaP
