/-
  The table of names of package alu: what the row's condition says of it, as cells; and that the world of the program's own initialisers meets that condition.
-/
import Derived.Test.YtkboeeakilhbhaaDoorRows
import Derived.Test.YtkboeeakilhbhaaDoorFrame
import Derived.WalkKit
import Derived.ProofKit
import Derived.LaidMore
import Derived.OpenShut
import Derived.Stop.Joined
import Derived.Lib.LaidTab
import Derived.WalkLawsBesides
namespace Go.Proofs.YtkboeeakilhbhaaDoor.TabC
open Go.ChangeShapes Go.WideShapes Go.ChangeAt Go.WideElems Go.RowKit
set_option linter.unusedVariables false

/-- A list of strings as a datum. -/
def strs {H : Type} (ls : List (List UInt8)) : DataW H := .agg (ls.map fun l => .lit (.string l))
/-- A list of strings as cells. -/
def cells (ls : List (List UInt8)) : List Value := ls.map fun l => .string ⟨l.toArray⟩

/-- An array of strings that reads as the table holds the table's strings, cell for cell. -/
theorem cells_of_strs {H : Type} {enc : TypeId × Value → H} {P : Program} {w : World} {base : Nat} {sp : Nat → Bool} {held : Bool} {fuel : Nat} {t e : TypeId} {n : Nat} {cs : List Value} {zs : List (List UInt8)} {p : List MemPlace}
    (ht : P.underlying t = some (.array n e)) (he : P.underlying e = some .string) (hce : P.cellsOf e = 1) (hct : P.cellsOf t = n)
    (h : DataW.trod enc P w base sp held fuel t cs = some (strs zs, p)) : cs = cells zs := by
  cases fuel with
  | zero => simp [DataW.trod] at h
  | succ fuel =>
    simp only [DataW.trod, ht, hce, hct, Nat.mul_one] at h
    split at h
    · rename_i hl
      obtain ⟨xs, hm, hx⟩ := Option.map_eq_some_iff.1 h
      have hxs : xs.map (·.1) = zs.map fun z => (DataW.lit (.string z) : DataW H) := by
        have := congrArg Prod.fst hx
        simpa [strs] using this
      have hxl : xs.length = n := by simpa using Lib.mapM_length hm
      have hzl : zs.length = n := by
        have := congrArg List.length hxs
        simp at this
        omega
      apply List.ext_getElem?
      intro i
      by_cases hi : i < n
      · obtain ⟨b, hb, hf⟩ := Lib.mapM_at hm i i (by simp [hi])
        obtain ⟨s, hc, rfl, _⟩ := DataW.trod_string he hf
        have h1 : cs[i]? = some (.string s) := by
          have := congrArg (·[0]?) hc
          simpa [List.getElem?_take, List.getElem?_drop] using this
        have h2 : (xs.map (·.1))[i]? = some (DataW.lit (.string s.data.toList) : DataW H) := by simp [hb]
        rw [hxs] at h2
        simp only [List.getElem?_map, Option.map_eq_some_iff, DataW.lit.injEq, Lit.string.injEq] at h2
        obtain ⟨z', hz', rfl⟩ := h2
        rw [h1]
        unfold cells
        rw [List.getElem?_map, hz']
        simp
      · rw [List.getElem?_eq_none (by omega), List.getElem?_eq_none (by simp [cells]; omega)]
    · cases h

/-- The names, in the order of the functions' numbers. -/
def names : List (List UInt8) := [[97, 100, 100], [115, 117, 98], [109, 117, 108], [97, 110, 100], [111, 114], [120, 111, 114], [115, 104, 108], [115, 104, 114], [101, 113], [110, 101], [108, 116], [108, 116, 117], [102, 97, 100, 100], [102, 115, 117, 98], [102, 109, 117, 108], [102, 100, 105, 118], [102, 109, 105, 110], [102, 109, 97, 120], [102, 101, 113], [102, 108, 116], [102, 114, 111, 109, 105, 110, 116], [116, 111, 105, 110, 116]]

theorem gNames : Tryd.prog.globalNamed "strongtx/alu.names" = some 0 := by kernel_rfl
theorem tNames : (Tryd.prog.globals[0]?).map (·.type) = some 43 := by kernel_rfl
theorem laid_eq : (Rows.laid_strongtx_alu_names : DataW Unit) = strs names := rfl

/-- The table lies in its block. -/
def Tab (w : World) : Prop := 0 < w.heap.size ∧ ∃ t fr, w.heap[0]? = some (.cells (cells names).toArray t fr)

theorem tab_of_laid {W : World} (h : laidMetH Tryd.prog [("strongtx/alu.names", Rows.laid_strongtx_alu_names)] W) : Tab W := by
  rw [MakeChecks.laidMetH_plain _ _ _ (by kernel_rfl)] at h
  obtain ⟨ps, ⟨g0, t0, cs0, f0, p0, q0, hg0, ht0, hv0, hd0, _, _⟩, _, _⟩ := h
  obtain rfl := Option.some.inj (gNames.symm.trans hg0)
  obtain rfl := Option.some.inj (tNames.symm.trans ht0)
  rw [laid_eq] at hd0
  have hc := cells_of_strs Tryd.underlying43 Tryd.underlying9 (by kernel_rfl) (by kernel_rfl) hd0
  have hcs : cs0 = (cells names).toArray := by rw [← hc]
  subst hcs
  simp only [World.var?, gNames, Option.bind_some] at hv0
  split at hv0
  · rename_i cs t fr e
    cases hv0
    refine ⟨?_, t, fr, e⟩
    exact (Array.getElem?_eq_some_iff.1 e).1
  · cases hv0

theorem Tab.cell {w : World} (h : Tab w) (j : Nat) : w.cell? ⟨0, j, none⟩ = (cells names)[j]? := by
  obtain ⟨_, t, fr, e⟩ := h
  simp [World.cell?, e]
theorem Tab.kept {w w' : World} (h : Tab w) (k : LawFrame.Kept w w') : Tab w' := by
  obtain ⟨h0, t, fr, e⟩ := h
  exact ⟨Nat.lt_of_lt_of_le h0 k.2.2.1, t, fr, by rw [k.2.2.2 _ h0]; exact e⟩
theorem Tab.alloc {w : World} (h : Tab w) (o : Obj) : Tab (w.alloc o) := by
  obtain ⟨h0, t, fr, e⟩ := h
  refine ⟨?_, t, fr, ?_⟩
  · show _ < (w.heap.push o).size
    rw [Array.size_push]; omega
  · show (w.heap.push o)[_]? = _
    rw [Array.getElem?_push, if_neg (Nat.ne_of_lt h0)]; exact e
theorem Tab.drewN {w : World} (h : Tab w) (n : Nat) : Tab (w.drewN n) := h

/-- The heap that the program's own initialisers leave meets the condition. -/
theorem door_met (os : Os) (args : Array Value) : laidMetH Tryd.prog [("strongtx/alu.names", Rows.laid_strongtx_alu_names)] ((World.doorLaid Tryd.prog 400 os).forCall (fun _ _ => 0) ⟨#[], args, []⟩).memory :=
  laidMetH_of_parts3 (fuel := 8) (laidMet_of_run' 8 (by kernel_rfl) (by kernel_rfl)) (by kernel_rfl) (by kernel_rfl)

/-- The name of a number. -/
def nm (k : Nat) : ByteArray := ⟨(names.getD k []).toArray⟩
theorem Tab.name {w : World} (h : Tab w) (k : Nat) (hk : k < 22) : w.cell? ⟨0, k, none⟩ = some (.string (nm k)) := by
  rw [h.cell k]
  unfold cells nm
  have hl : names.length = 22 := by decide
  rw [List.getElem?_map, List.getElem?_eq_getElem (by omega), List.getD_eq_getElem?_getD, List.getElem?_eq_getElem (by omega)]
  rfl
def cellA : Array Value := (cells names).toArray
/-- The whole table, indexed. -/
theorem index_tab (k : Nat) (hk : k < 22) (w : World) : (Instr.index 43 (.agg cellA) (.int .i64 k)).run Tryd.prog w = .ok (.string (nm k)) w := by
  have hc : k = 0 ∨ k = 1 ∨ k = 2 ∨ k = 3 ∨ k = 4 ∨ k = 5 ∨ k = 6 ∨ k = 7 ∨ k = 8 ∨ k = 9 ∨ k = 10 ∨ k = 11 ∨ k = 12 ∨ k = 13 ∨ k = 14 ∨ k = 15 ∨ k = 16 ∨ k = 17 ∨ k = 18 ∨ k = 19 ∨ k = 20 ∨ k = 21 := by omega
  rcases hc with rfl | rfl | rfl | rfl | rfl | rfl | rfl | rfl | rfl | rfl | rfl | rfl | rfl | rfl | rfl | rfl | rfl | rfl | rfl | rfl | rfl | rfl
  · show _ = _; kernel_rfl
  · show _ = _; kernel_rfl
  · show _ = _; kernel_rfl
  · show _ = _; kernel_rfl
  · show _ = _; kernel_rfl
  · show _ = _; kernel_rfl
  · show _ = _; kernel_rfl
  · show _ = _; kernel_rfl
  · show _ = _; kernel_rfl
  · show _ = _; kernel_rfl
  · show _ = _; kernel_rfl
  · show _ = _; kernel_rfl
  · show _ = _; kernel_rfl
  · show _ = _; kernel_rfl
  · show _ = _; kernel_rfl
  · show _ = _; kernel_rfl
  · show _ = _; kernel_rfl
  · show _ = _; kernel_rfl
  · show _ = _; kernel_rfl
  · show _ = _; kernel_rfl
  · show _ = _; kernel_rfl
  · show _ = _; kernel_rfl

theorem a_name (k : Nat) (hk : k < 22) (w : World) (h : Tab w) : Calls Tryd.prog 16 #[.int .i64 k] w fun e w' => e = .returned (.string (nm k)) ∧ w = w' := by
  have hcell := h.name k hk
  go_enter Tryd.func16, Tryd.ntmps16
  go_wp2
  go_ret
  exact ⟨rfl, rfl⟩
theorem a_name_no (k : Int) (hk : k < 0 ∨ 22 ≤ k) (w : World) : Calls Tryd.prog 16 #[.int .i64 k] w fun e w' => e = .returned (.string ⟨#[]⟩) ∧ w = w' := by
  rcases hk with hk | hk
  all_goals
    go_enter Tryd.func16, Tryd.ntmps16
    go_wp2
    go_ret
    exact ⟨rfl, rfl⟩
/-- No name before the k-th is s. -/
def Un (s : ByteArray) (k : Nat) : Prop := ∀ j, j < k → nm j ≠ s
theorem Un.zero (s : ByteArray) : Un s 0 := fun j h => absurd h (by omega)
theorem Un.next {s : ByteArray} {k : Nat} (h : Un s k) (hk : nm k ≠ s) : Un s (k + 1) := fun j hj => by
  by_cases e : j = k
  · subst e; exact hk
  · exact h j (by omega)
/-- What Number gives: the first number with this name. -/
def NumIs (s : ByteArray) (n : Int) (b : Bool) : Prop := (∃ k : Nat, k < 22 ∧ nm k = s ∧ n = k ∧ b = true ∧ Un s k) ∨ (Un s 22 ∧ n = 0 ∧ b = false)
def Numbered (s : ByteArray) (e : Ending) : Prop := ∃ n b, e = .returned (.tuple #[.int .i64 n, .bool b]) ∧ NumIs s n b
theorem Numbered.yes {s : ByteArray} {k : Nat} (hk : k < 22) (h : nm k = s) (hu : Un s k) : Numbered s (.returned (.tuple #[.int .i64 k, .bool true])) := ⟨_, _, rfl, .inl ⟨k, hk, h, rfl, rfl, hu⟩⟩
theorem Numbered.no {s : ByteArray} (hu : Un s 22) : Numbered s (.returned (.tuple #[.int .i64 0, .bool false])) := ⟨_, _, rfl, .inr ⟨hu, rfl, rfl⟩⟩

theorem list_ne {a b : ByteArray} (h : ¬ a = b) : (a.toList == b.toList) = false := by
  rw [beq_eq_false_iff_ne, ByteArray.toList_eq, ByteArray.toList_eq]
  intro e
  apply h
  cases a; cases b
  exact congrArg ByteArray.mk (Array.toList_inj.1 e)
theorem a_number (s : ByteArray) (w : World) (h : Tab w) : Calls Tryd.prog 14 #[.string s] w fun e w' => Numbered s e ∧ w = w' := by
  obtain ⟨_, tt, fr, hg⟩ := h
  have hg : w.heap[0]? = some (.cells cellA tt fr) := hg
  go_enter Tryd.func14, Tryd.ntmps14
  go_wp2_with (refine wpList_load_row rfl 43 _ rfl 0 rfl tt _ fr _ hg Tryd.underlying43 rfl (by kernel_rfl) ?_)
  clear hg
  go_loop [7] (fun i => ∃ k : Nat, k ≤ 22 ∧ i = .int .i64 k ∧ Un s k) (fun i => 22 - (intOf i).toNat)
  case atStart => exact ⟨0, by omega, rfl, Un.zero s⟩
  case round =>
    obtain ⟨k, hk, rfl, hu⟩ := hrel
    by_cases hlt : k < 22
    · have hi := index_tab k hlt
      by_cases he : nm k = s
      · have hy := Numbered.yes hlt he hu
        subst he
        go_wp2
        go_ret2
        exact ⟨hy, rfl⟩
      · have hq := list_ne he
        have hn := hu.next he
        clear he
        go_wp2
        go_round
        case rel => exact ⟨k + 1, by omega, by go_num, hn⟩
        case measure => simp [intOf]; omega
    · have hk' : k = 22 := by omega
      subst hk'
      go_wp2
      go_ret2
      exact ⟨Numbered.no hu, rfl⟩
theorem r_names (w : World) : Calls Tryd.prog 33 #[] w fun e w' => e = .returned (.slice (some ⟨w.heap.size, 0, none⟩) 22 22) ∧ w' = w.alloc (.cells cellA 9) := by
  go_enter Tryd.func33, Tryd.ntmps33
  go_wp2
  go_ret
  exact ⟨rfl, rfl⟩
theorem new_name (w : World) (k : Nat) (hk : k < 22) : (w.alloc (.cells cellA 9)).cell? ⟨w.heap.size, k, none⟩ = some (.string (nm k)) := by
  have e : (w.alloc (.cells cellA 9)).heap[w.heap.size]? = some (.cells cellA 9 (0, 0)) := by
    show (w.heap.push _)[w.heap.size]? = _
    simp
  simp only [World.cell?, e]
  unfold cellA cells nm
  have hl : names.length = 22 := by decide
  rw [List.getElem?_toArray, List.getElem?_map, List.getElem?_eq_getElem (by omega), List.getD_eq_getElem?_getD, List.getElem?_eq_getElem (by omega)]
  rfl
theorem r_name (k : Nat) (hk : k < 22) (w : World) : Calls Tryd.prog 17 #[.int .i64 k] w fun e w' => e = .returned (.string (nm k)) ∧ w' = w.alloc (.cells cellA 9) := by
  have hcell := new_name w k hk
  go_enter Tryd.func17, Tryd.ntmps17
  go_wp2_with (go_at_call 33; refine (r_names _).mono ?_; rintro e w1 ⟨rfl, rfl⟩)
  go_ret
  exact ⟨rfl, rfl⟩
theorem r_name_no (k : Int) (hk : k < 0 ∨ 22 ≤ k) (w : World) : Calls Tryd.prog 17 #[.int .i64 k] w fun e w' => e = .returned (.string ⟨#[]⟩) ∧ w = w' := by
  rcases hk with hk | hk
  all_goals
    go_enter Tryd.func17, Tryd.ntmps17
    go_wp2
    go_ret
    exact ⟨rfl, rfl⟩
theorem r_number (s : ByteArray) (w : World) : Calls Tryd.prog 15 #[.string s] w fun e w' => Numbered s e ∧ w' = w.alloc (.cells cellA 9) := by
  go_enter Tryd.func15, Tryd.ntmps15
  go_wp2_with (go_at_call 33; refine (r_names _).mono ?_; rintro e w1 ⟨rfl, rfl⟩)
  go_loop [5] (fun i => ∃ k : Nat, k ≤ 22 ∧ i = .int .i64 k ∧ Un s k) (fun i => 22 - (intOf i).toNat)
  case atStart => exact ⟨0, by omega, rfl, Un.zero s⟩
  case round =>
    obtain ⟨k, hk, rfl, hu⟩ := hrel
    by_cases hlt : k < 22
    · have hi := new_name w k hlt
      by_cases he : nm k = s
      · have hy := Numbered.yes hlt he hu
        subst he
        go_wp2
        go_ret2
        exact ⟨hy, rfl⟩
      · have hq := list_ne he
        have hn := hu.next he
        clear he
        go_wp2
        go_round
        case rel => exact ⟨k + 1, by omega, by go_num, hn⟩
        case measure => simp [intOf]; omega
    · have hk' : k = 22 := by omega
      subst hk'
      go_wp2
      go_ret2
      exact ⟨Numbered.no hu, rfl⟩

/-- The names are different, and none is empty. -/
theorem nm_inj (a b : Nat) (ha : a < 22) (hb : b < 22) (h : nm a = nm b) : a = b := by
  have : ∀ a : Fin 22, ∀ b : Fin 22, names.getD a.val [] = names.getD b.val [] → a = b := by decide +kernel
  have e : names.getD a [] = names.getD b [] := by
    unfold nm at h
    have := congrArg (fun x : ByteArray => x.data.toList) h
    simpa using this
  exact congrArg Fin.val (this ⟨a, ha⟩ ⟨b, hb⟩ e)
theorem nm_ne (a : Nat) (ha : a < 22) : nm a ≠ ⟨#[]⟩ := by
  have : ∀ a : Fin 22, names.getD a.val [] ≠ [] := by decide +kernel
  intro h
  apply this ⟨a, ha⟩
  unfold nm at h
  have := congrArg (fun x : ByteArray => x.data.toList) h
  simpa using this
theorem NumIs.name {k : Nat} {n : Int} {b : Bool} (hk : k < 22) (h : NumIs (nm k) n b) : n = k ∧ b = true := by
  rcases h with ⟨j, hj, e, rfl, rfl, _⟩ | ⟨hu, _, _⟩
  · exact ⟨by rw [nm_inj j k hj hk e], rfl⟩
  · exact absurd rfl (hu k hk)
theorem NumIs.none {n : Int} {b : Bool} (h : NumIs ⟨#[]⟩ n b) : n = 0 ∧ b = false := by
  rcases h with ⟨j, hj, e, _⟩ | ⟨_, rfl, rfl⟩
  · exact absurd e (nm_ne j hj)
  · exact ⟨rfl, rfl⟩
theorem NumIs.unique {s : ByteArray} {n m : Int} {a b : Bool} (h : NumIs s n a) (k : NumIs s m b) : n = m ∧ a = b := by
  rcases h with ⟨j, hj, e, rfl, rfl, _⟩ | ⟨hu, rfl, rfl⟩ <;> rcases k with ⟨j', hj', e', rfl, rfl, _⟩ | ⟨hu', rfl, rfl⟩
  · exact ⟨by rw [nm_inj j j' hj hj' (e.trans e'.symm)], rfl⟩
  · exact absurd e (hu' j hj)
  · exact absurd e' (hu j' hj')
  · exact ⟨rfl, rfl⟩
end Go.Proofs.YtkboeeakilhbhaaDoor.TabC
