/-
  Contracts of the reference of layer 3: form, name, has, register, Check.
-/
import Derived.Test.YtcplhochgngedaaGreatDoorIsaF
namespace Go.Proofs.YtcplhochgngedaaGreatDoor.RefA
open Go.ChangeShapes Go.WideShapes Go.ChangeAt Go.RowKit
open PlainT IsaE IsaS BlkW IsaA IsaB IsaF
set_option linter.unusedVariables false
set_option maxHeartbeats 400000
set_option maxRecDepth 100000

/-! ### Tables of strings. -/
def forms : List (List UInt8) := [[], [114, 105], [114, 115], [114, 115, 116, 102], [106], [114, 106], [114, 106], [97], [], [], [114, 115, 105], [114, 115, 105], [114, 115, 105], [114, 115, 105], [114, 99], [114], [], [114]]
def formL (k : Nat) : List UInt8 := forms.getD k []
def formB (k : Nat) : ByteArray := ⟨(formL k).toArray⟩
def formCells : Array Value := (IsaE.strs forms).toArray
def nameCells : Array Value := (IsaE.strs opNames).toArray
theorem new_str (L : List (List UInt8)) (w : World) (k : Nat) (hk : k < L.length) : (w.alloc (.cells (IsaE.strs L).toArray 9)).cell? ⟨w.heap.size, k, none⟩ = some (.string ⟨(L.getD k []).toArray⟩) := by
  rw [(Mem.new w _ _).cell, List.getElem?_toArray]
  unfold IsaE.strs
  rw [List.getElem?_map, List.getElem?_eq_getElem hk, List.getD_eq_getElem?_getD, List.getElem?_eq_getElem hk]
  rfl
theorem r_form (k : Nat) (hk : k < 18) (w : World) : Calls Tryz.prog 46 #[.int .i64 k] w fun e w' => e = .returned (.string (formB k)) ∧ Below w.heap.size w w' := by
  go_enter Tryz.func46, Tryz.ntmps46
  go_wp2
  go_ret
  refine ⟨?_, below_new _ _⟩
  rcases op_cases hk with rfl | rfl | rfl | rfl | rfl | rfl | rfl | rfl | rfl | rfl | rfl | rfl | rfl | rfl | rfl | rfl | rfl | rfl <;> rfl
theorem r_name (k : Nat) (hk : k < 18) (w : World) : Calls Tryz.prog 54 #[.int .i64 k] w fun e w' => e = .returned (.string (opm k)) ∧ Below w.heap.size w w' := by
  go_enter Tryz.func54, Tryz.ntmps54
  go_wp2
  go_ret
  refine ⟨?_, below_new _ _⟩
  rcases op_cases hk with rfl | rfl | rfl | rfl | rfl | rfl | rfl | rfl | rfl | rfl | rfl | rfl | rfl | rfl | rfl | rfl | rfl | rfl <;> rfl

/-! ### has. -/
def NotIn (s : ByteArray) (c : UInt8) (k : Nat) : Prop := ∀ j, j < k → s.data.toList.getD j 0 ≠ c
theorem r_has (s : ByteArray) (hs : s.size ≤ 1000) (c : UInt8) (v : Bool) (hv : s.data.toList.contains c = v) (w : World) : Calls Tryz.prog 45 #[.string s, .int .u8 (c.toNat : Int)] w fun e w' => e = .returned (.bool v) ∧ w = w' := by
  have HV := Lib.hid hv
  clear hv
  go_enter Tryz.func45, Tryz.ntmps45
  go_wp2
  go_loop [5] (fun i => ∃ k : Nat, k ≤ s.size ∧ i = .int .i64 k ∧ NotIn s c k) (fun i => s.size - (intOf i).toNat)
  case atStart => exact ⟨0, by omega, rfl, fun j hj => absurd hj (by omega)⟩
  case round =>
    obtain ⟨k, hk, rfl, hn⟩ := hrel
    by_cases hlt : k < s.size
    · have hb : s.data.toList.getD k 0 = s[k] := by
        rw [List.getD_eq_getElem?_getD, List.getElem?_eq_getElem (by simpa using hlt)]
        rfl
      by_cases hc : s[k] = c
      · have hvt := Lib.hid (show v = true by
          rw [← HV.out, List.contains_iff_mem]
          rw [hc] at hb
          rw [← hb, List.getD_eq_getElem?_getD, List.getElem?_eq_getElem (by simpa using hlt)]
          exact List.getElem_mem _)
        clear hb
        have hq : ((s[k].toNat : Int) == (c.toNat : Int)) = true := by rw [hc]; simp
        clear hc
        go_wp2
        go_ret
        exact ⟨by rw [hvt.out]; rfl, rfl⟩
      · have hn2 : NotIn s c (k + 1) := fun j hj => by
          by_cases e : j = k
          · subst e; rw [hb]; exact hc
          · exact hn j (by omega)
        have hq : ((s[k].toNat : Int) == (c.toNat : Int)) = false := by
          rw [beq_eq_false_iff_ne]
          intro e
          exact hc (UInt8.toNat_inj.1 (by omega))
        clear hb hc
        go_wp2
        go_round
        case rel => exact ⟨k + 1, by omega, by go_num, hn2⟩
        case measure => simp [intOf]; omega
    · have hvt := Lib.hid (show v = false by
        rw [← HV.out]
        apply Bool.eq_false_iff.2
        intro hm
        rw [List.contains_iff_mem] at hm
        obtain ⟨j, hj, e⟩ := List.getElem_of_mem hm
        have hj2 : j < k := by
          have : s.data.toList.length = s.size := by rw [Array.length_toList]; rfl
          omega
        apply hn j hj2
        rw [List.getD_eq_getElem?_getD, List.getElem?_eq_getElem hj]
        exact e)
      go_wp2
      go_ret
      exact ⟨by rw [hvt.out]; rfl, rfl⟩
theorem form_le (k : Nat) : (formB k).size ≤ 1000 := by
  show (formL k).length ≤ 1000
  by_cases hk : k < 18
  · have all : ∀ k : Fin 18, (formL k.val).length ≤ 1000 := by decide
    exact all ⟨k, hk⟩
  · unfold formL
    rw [List.getD_eq_getElem?_getD, List.getElem?_eq_none (by show 18 ≤ k; omega)]
    simp
def hasF (k : Nat) (c : UInt8) : Bool := (formL k).contains c
theorem r_hasF (k : Nat) (c : UInt8) (n : Int) (hn : (c.toNat : Int) = n) (v : Bool) (hv : hasF k c = v) (w : World) : Calls Tryz.prog 45 #[.string (formB k), .int .u8 n] w fun e w' => e = .returned (.bool v) ∧ w = w' := by
  subst hn
  exact r_has (formB k) (form_le k) c v (by unfold hasF at hv; unfold formB; simpa only [List.toList_toArray] using hv) w

/-! ### register. -/
def regR (r : Int) (b : Bool) : Bool := if b = true then reg r else r == 0
theorem r_register (r : Int) (b v : Bool) (hv : regR r b = v) (w : World) : Calls Tryz.prog 68 #[.int .i64 r, .bool b] w fun e w' => e = .returned (.bool v) ∧ w = w' := by
  subst hv
  cases b
  · have HE := Lib.hid (show regR r false = (r == 0) from rfl)
    go_enter Tryz.func68, Tryz.ntmps68
    go_wp2
    go_ret
    exact ⟨by rw [HE.out]; rfl, rfl⟩
  · have HE := Lib.hid (show regR r true = decide (0 ≤ r ∧ r < 8) from rfl)
    by_cases h0 : 0 ≤ r
    · by_cases h1 : r < 8
      · have e := Lib.hid (HE.out.trans (decide_eq_true ⟨h0, h1⟩))
        clear HE
        go_enter Tryz.func68, Tryz.ntmps68
        go_wp2
        go_ret
        exact ⟨by rw [e.out]; rfl, rfl⟩
      · have e := Lib.hid (HE.out.trans (decide_eq_false (by omega)))
        clear HE
        go_enter Tryz.func68, Tryz.ntmps68
        go_wp2
        go_ret
        exact ⟨by rw [e.out]; rfl, rfl⟩
    · have e := Lib.hid (HE.out.trans (decide_eq_false (by omega)))
      clear HE
      go_enter Tryz.func68, Tryz.ntmps68
      go_wp2
      go_ret
      exact ⟨by rw [e.out]; rfl, rfl⟩

/-! ### Check. -/
theorem quiet_same {P : Program} {f : FuncId} {args : Array Value} {w : World} {n : Nat} {v : Value}
    (h : Calls P f args (w.drewN n) fun e w' => e = .returned v ∧ w.drewN n = w') : Calls P f args (w.drewN n) fun e w'' => e = .returned v ∧ ∃ m, w'' = w.drewN m :=
  h.mono fun _ _ ⟨he, hm⟩ => ⟨he, n, hm.symm⟩
def rA (k : Nat) (a : Int) : Bool := regR a (hasF k 114)
def rB (k : Nat) (b : Int) : Bool := regR b (hasF k 115)
def rC (k : Nat) (c : Int) : Bool := regR c (hasF k 116)
theorem r_check_A (k : Nat) (hk : k < 18) (a b c i : Int) (ha : rA k a = false) (w : World) : Calls Tryz.prog 40 #[ins k a b c i] w fun e w' => e = .returned (.int .i64 11) ∧ Below w.heap.size w w' := by
  show Calls _ _ #[.agg _] _ _
  obtain ⟨x, hx⟩ : ∃ x, hasF k 114 = x := ⟨_, rfl⟩
  have HX := Lib.hid (fun w => r_hasF k 114 114 rfl x hx w)
  have HA := Lib.hid (fun w => r_register a x false (show regR a x = false by rw [← hx]; exact ha) w)
  clear hx ha
  go_enter Tryz.func40, Tryz.ntmps40
  go_wp2_with fail
  refine (r_form k hk _).mono ?_
  rintro e w1 ⟨rfl, hb1⟩
  have hm1 : Mem w1 w.heap.size 40 (boxed k a b c i) := (Mem.new w 40 (boxed k a b c i)).below hb1 (by simp)
  obtain ⟨z0, z1, z2, z3, z4⟩ := boxed_cells hm1
  have hbw := (below_new w (.cells (boxed k a b c i) 40)).trans (hb1.mono (by simp))
  clear hb1 hm1
  go_wp2
  go_quiet ((first | (go_at_call 45; with_reducible exact quiet_same (HX.out _)) | (go_at_call 68; with_reducible exact quiet_same (HA.out _))))
  go_wp2
  go_ret
  exact ⟨rfl, below_drewN hbw _⟩
theorem r_check_B (k : Nat) (hk : k < 18) (a b c i : Int) (ha : rA k a = true) (hb : rB k b = false) (w : World) : Calls Tryz.prog 40 #[ins k a b c i] w fun e w' => e = .returned (.int .i64 11) ∧ Below w.heap.size w w' := by
  show Calls _ _ #[.agg _] _ _
  obtain ⟨x, hx⟩ : ∃ x, hasF k 114 = x := ⟨_, rfl⟩
  have HX := Lib.hid (fun w => r_hasF k 114 114 rfl x hx w)
  have HA := Lib.hid (fun w => r_register a x true (show regR a x = true by rw [← hx]; exact ha) w)
  clear hx ha
  obtain ⟨y, hy⟩ : ∃ y, hasF k 115 = y := ⟨_, rfl⟩
  have HY := Lib.hid (fun w => r_hasF k 115 115 rfl y hy w)
  have HB := Lib.hid (fun w => r_register b y false (show regR b y = false by rw [← hy]; exact hb) w)
  clear hy hb
  go_enter Tryz.func40, Tryz.ntmps40
  go_wp2_with fail
  refine (r_form k hk _).mono ?_
  rintro e w1 ⟨rfl, hb1⟩
  have hm1 : Mem w1 w.heap.size 40 (boxed k a b c i) := (Mem.new w 40 (boxed k a b c i)).below hb1 (by simp)
  obtain ⟨z0, z1, z2, z3, z4⟩ := boxed_cells hm1
  have hbw := (below_new w (.cells (boxed k a b c i) 40)).trans (hb1.mono (by simp))
  clear hb1 hm1
  go_wp2
  go_quiet ((first | (go_at_call 45; with_reducible exact quiet_same (HX.out _)) | (go_at_call 45; with_reducible exact quiet_same (HY.out _)) | (go_at_call 68; with_reducible exact quiet_same (HA.out _)) | (go_at_call 68; with_reducible exact quiet_same (HB.out _))))
  go_wp2
  go_ret
  exact ⟨rfl, below_drewN hbw _⟩
theorem r_check_C (k : Nat) (hk : k < 18) (a b c i : Int) (ha : rA k a = true) (hb : rB k b = true) (hc : rC k c = false) (w : World) : Calls Tryz.prog 40 #[ins k a b c i] w fun e w' => e = .returned (.int .i64 11) ∧ Below w.heap.size w w' := by
  show Calls _ _ #[.agg _] _ _
  obtain ⟨x, hx⟩ : ∃ x, hasF k 114 = x := ⟨_, rfl⟩
  have HX := Lib.hid (fun w => r_hasF k 114 114 rfl x hx w)
  have HA := Lib.hid (fun w => r_register a x true (show regR a x = true by rw [← hx]; exact ha) w)
  clear hx ha
  obtain ⟨y, hy⟩ : ∃ y, hasF k 115 = y := ⟨_, rfl⟩
  have HY := Lib.hid (fun w => r_hasF k 115 115 rfl y hy w)
  have HB := Lib.hid (fun w => r_register b y true (show regR b y = true by rw [← hy]; exact hb) w)
  clear hy hb
  obtain ⟨z, hz⟩ : ∃ z, hasF k 116 = z := ⟨_, rfl⟩
  have HZ := Lib.hid (fun w => r_hasF k 116 116 rfl z hz w)
  have HC := Lib.hid (fun w => r_register c z false (show regR c z = false by rw [← hz]; exact hc) w)
  clear hz hc
  go_enter Tryz.func40, Tryz.ntmps40
  go_wp2_with fail
  refine (r_form k hk _).mono ?_
  rintro e w1 ⟨rfl, hb1⟩
  have hm1 : Mem w1 w.heap.size 40 (boxed k a b c i) := (Mem.new w 40 (boxed k a b c i)).below hb1 (by simp)
  obtain ⟨z0, z1, z2, z3, z4⟩ := boxed_cells hm1
  have hbw := (below_new w (.cells (boxed k a b c i) 40)).trans (hb1.mono (by simp))
  clear hb1 hm1
  go_wp2
  go_quiet ((first | (go_at_call 45; with_reducible exact quiet_same (HX.out _)) | (go_at_call 45; with_reducible exact quiet_same (HY.out _)) | (go_at_call 45; with_reducible exact quiet_same (HZ.out _)) | (go_at_call 68; with_reducible exact quiet_same (HA.out _)) | (go_at_call 68; with_reducible exact quiet_same (HB.out _)) | (go_at_call 68; with_reducible exact quiet_same (HC.out _))))
  go_wp2
  go_ret
  exact ⟨rfl, below_drewN hbw _⟩
/-- What the switch of Check finds. -/
inductive Cls (k : Nat) : Prop where
  | any (h : hasF k 105 = true) (l : loI k = -9223372036854775808) (u : hiI k = 9223372036854775807)
  | fn (h1 : hasF k 105 = false) (h : hasF k 102 = true) (l : loI k = 0) (u : hiI k = 21)
  | jump (h1 : hasF k 105 = false) (h2 : hasF k 102 = false) (h : hasF k 106 = true) (l : loI k = 0) (u : hiI k = 64)
  | att (h1 : hasF k 105 = false) (h2 : hasF k 102 = false) (h3 : hasF k 106 = false) (h : hasF k 97 = true) (l : loI k = 1) (u : hiI k = 8)
  | cls (h1 : hasF k 105 = false) (h2 : hasF k 102 = false) (h3 : hasF k 106 = false) (h4 : hasF k 97 = false) (h : hasF k 99 = true) (l : loI k = 0) (u : hiI k = 3)
  | none (h1 : hasF k 105 = false) (h2 : hasF k 102 = false) (h3 : hasF k 106 = false) (h4 : hasF k 97 = false) (h5 : hasF k 99 = false) (l : loI k = 0) (u : hiI k = 0)
theorem cls_of (k : Nat) (hk : k < 18) : Cls k := by
  rcases op_cases hk with rfl | rfl | rfl | rfl | rfl | rfl | rfl | rfl | rfl | rfl | rfl | rfl | rfl | rfl | rfl | rfl | rfl | rfl
  all_goals first
    | exact .any rfl rfl rfl
    | exact .fn rfl rfl rfl rfl
    | exact .jump rfl rfl rfl rfl rfl
    | exact .att rfl rfl rfl rfl rfl rfl
    | exact .cls rfl rfl rfl rfl rfl rfl rfl
    | exact .none rfl rfl rfl rfl rfl rfl rfl
theorem r_check_any (k : Nat) (hk : k < 18) (a b c i : Int) (v : Int) (ha : rA k a = true) (hb : rB k b = true) (hc : rC k c = true) (g105 : hasF k 105 = true) (w : World) : Calls Tryz.prog 40 #[ins k a b c i] w fun e w' => e = .returned (.int .i64 0) ∧ Below w.heap.size w w' := by
  show Calls _ _ #[.agg _] _ _
  have G105 := Lib.hid g105
  clear g105
  obtain ⟨x, hx⟩ : ∃ x, hasF k 114 = x := ⟨_, rfl⟩
  have HX := Lib.hid (fun w => r_hasF k 114 114 rfl x hx w)
  have HA := Lib.hid (fun w => r_register a x true (show regR a x = true by rw [← hx]; exact ha) w)
  clear hx ha
  obtain ⟨y, hy⟩ : ∃ y, hasF k 115 = y := ⟨_, rfl⟩
  have HY := Lib.hid (fun w => r_hasF k 115 115 rfl y hy w)
  have HB := Lib.hid (fun w => r_register b y true (show regR b y = true by rw [← hy]; exact hb) w)
  clear hy hb
  obtain ⟨z, hz⟩ : ∃ z, hasF k 116 = z := ⟨_, rfl⟩
  have HZ := Lib.hid (fun w => r_hasF k 116 116 rfl z hz w)
  have HC := Lib.hid (fun w => r_register c z true (show regR c z = true by rw [← hz]; exact hc) w)
  clear hz hc
  go_enter Tryz.func40, Tryz.ntmps40
  go_wp2_with fail
  refine (r_form k hk _).mono ?_
  rintro e w1 ⟨rfl, hb1⟩
  have hm1 : Mem w1 w.heap.size 40 (boxed k a b c i) := (Mem.new w 40 (boxed k a b c i)).below hb1 (by simp)
  obtain ⟨z0, z1, z2, z3, z4⟩ := boxed_cells hm1
  have hbw := (below_new w (.cells (boxed k a b c i) 40)).trans (hb1.mono (by simp))
  clear hb1 hm1
  go_wp2
  go_quiet ((first | (go_at_call 45; with_reducible exact quiet_same (HX.out _)) | (go_at_call 45; with_reducible exact quiet_same (HY.out _)) | (go_at_call 45; with_reducible exact quiet_same (HZ.out _)) | (go_at_call 68; with_reducible exact quiet_same (HA.out _)) | (go_at_call 68; with_reducible exact quiet_same (HB.out _)) | (go_at_call 68; with_reducible exact quiet_same (HC.out _))))
  go_wp2_with (first | (go_at_call 45; (with_reducible refine (r_hasF k 105 105 rfl true G105.out _).mono ?_); rintro e w2 ⟨rfl, rfl⟩))
  go_ret
  exact ⟨rfl, below_drewN hbw _⟩
theorem r_check_fn (k : Nat) (hk : k < 18) (a b c i : Int) (v : Int) (hv : v = if 0 ≤ i ∧ i ≤ 21 then 0 else 11) (ha : rA k a = true) (hb : rB k b = true) (hc : rC k c = true) (g105 : hasF k 105 = false) (g102 : hasF k 102 = true) (w : World) : Calls Tryz.prog 40 #[ins k a b c i] w fun e w' => e = .returned (.int .i64 v) ∧ Below w.heap.size w w' := by
  show Calls _ _ #[.agg _] _ _
  have G105 := Lib.hid g105
  have G102 := Lib.hid g102
  clear g105 g102
  obtain ⟨x, hx⟩ : ∃ x, hasF k 114 = x := ⟨_, rfl⟩
  have HX := Lib.hid (fun w => r_hasF k 114 114 rfl x hx w)
  have HA := Lib.hid (fun w => r_register a x true (show regR a x = true by rw [← hx]; exact ha) w)
  clear hx ha
  obtain ⟨y, hy⟩ : ∃ y, hasF k 115 = y := ⟨_, rfl⟩
  have HY := Lib.hid (fun w => r_hasF k 115 115 rfl y hy w)
  have HB := Lib.hid (fun w => r_register b y true (show regR b y = true by rw [← hy]; exact hb) w)
  clear hy hb
  obtain ⟨z, hz⟩ : ∃ z, hasF k 116 = z := ⟨_, rfl⟩
  have HZ := Lib.hid (fun w => r_hasF k 116 116 rfl z hz w)
  have HC := Lib.hid (fun w => r_register c z true (show regR c z = true by rw [← hz]; exact hc) w)
  clear hz hc
  have HV := Lib.hid hv
  clear hv
  go_enter Tryz.func40, Tryz.ntmps40
  go_wp2_with fail
  refine (r_form k hk _).mono ?_
  rintro e w1 ⟨rfl, hb1⟩
  have hm1 : Mem w1 w.heap.size 40 (boxed k a b c i) := (Mem.new w 40 (boxed k a b c i)).below hb1 (by simp)
  obtain ⟨z0, z1, z2, z3, z4⟩ := boxed_cells hm1
  have hbw := (below_new w (.cells (boxed k a b c i) 40)).trans (hb1.mono (by simp))
  clear hb1 hm1
  go_wp2
  go_quiet ((first | (go_at_call 45; with_reducible exact quiet_same (HX.out _)) | (go_at_call 45; with_reducible exact quiet_same (HY.out _)) | (go_at_call 45; with_reducible exact quiet_same (HZ.out _)) | (go_at_call 68; with_reducible exact quiet_same (HA.out _)) | (go_at_call 68; with_reducible exact quiet_same (HB.out _)) | (go_at_call 68; with_reducible exact quiet_same (HC.out _))))
  go_wp2_with (first | (go_at_call 45; (with_reducible refine (r_hasF k 105 105 rfl false G105.out _).mono ?_); rintro e w2 ⟨rfl, rfl⟩) | (go_at_call 45; (with_reducible refine (r_hasF k 102 102 rfl true G102.out _).mono ?_); rintro e w2 ⟨rfl, rfl⟩))
  all_goals
    go_ret
    refine ⟨?_, below_drewN hbw _⟩
    rw [HV.out]
    first
      | (rw [if_neg (by omega)]; rfl)
      | (rw [if_pos (by omega)]; rfl)
theorem r_check_jump (k : Nat) (hk : k < 18) (a b c i : Int) (v : Int) (hv : v = if 0 ≤ i ∧ i ≤ 64 then 0 else 11) (ha : rA k a = true) (hb : rB k b = true) (hc : rC k c = true) (g105 : hasF k 105 = false) (g102 : hasF k 102 = false) (g106 : hasF k 106 = true) (w : World) : Calls Tryz.prog 40 #[ins k a b c i] w fun e w' => e = .returned (.int .i64 v) ∧ Below w.heap.size w w' := by
  show Calls _ _ #[.agg _] _ _
  have G105 := Lib.hid g105
  have G102 := Lib.hid g102
  have G106 := Lib.hid g106
  clear g105 g102 g106
  obtain ⟨x, hx⟩ : ∃ x, hasF k 114 = x := ⟨_, rfl⟩
  have HX := Lib.hid (fun w => r_hasF k 114 114 rfl x hx w)
  have HA := Lib.hid (fun w => r_register a x true (show regR a x = true by rw [← hx]; exact ha) w)
  clear hx ha
  obtain ⟨y, hy⟩ : ∃ y, hasF k 115 = y := ⟨_, rfl⟩
  have HY := Lib.hid (fun w => r_hasF k 115 115 rfl y hy w)
  have HB := Lib.hid (fun w => r_register b y true (show regR b y = true by rw [← hy]; exact hb) w)
  clear hy hb
  obtain ⟨z, hz⟩ : ∃ z, hasF k 116 = z := ⟨_, rfl⟩
  have HZ := Lib.hid (fun w => r_hasF k 116 116 rfl z hz w)
  have HC := Lib.hid (fun w => r_register c z true (show regR c z = true by rw [← hz]; exact hc) w)
  clear hz hc
  have HV := Lib.hid hv
  clear hv
  go_enter Tryz.func40, Tryz.ntmps40
  go_wp2_with fail
  refine (r_form k hk _).mono ?_
  rintro e w1 ⟨rfl, hb1⟩
  have hm1 : Mem w1 w.heap.size 40 (boxed k a b c i) := (Mem.new w 40 (boxed k a b c i)).below hb1 (by simp)
  obtain ⟨z0, z1, z2, z3, z4⟩ := boxed_cells hm1
  have hbw := (below_new w (.cells (boxed k a b c i) 40)).trans (hb1.mono (by simp))
  clear hb1 hm1
  go_wp2
  go_quiet ((first | (go_at_call 45; with_reducible exact quiet_same (HX.out _)) | (go_at_call 45; with_reducible exact quiet_same (HY.out _)) | (go_at_call 45; with_reducible exact quiet_same (HZ.out _)) | (go_at_call 68; with_reducible exact quiet_same (HA.out _)) | (go_at_call 68; with_reducible exact quiet_same (HB.out _)) | (go_at_call 68; with_reducible exact quiet_same (HC.out _))))
  go_wp2_with (first | (go_at_call 45; (with_reducible refine (r_hasF k 105 105 rfl false G105.out _).mono ?_); rintro e w2 ⟨rfl, rfl⟩) | (go_at_call 45; (with_reducible refine (r_hasF k 102 102 rfl false G102.out _).mono ?_); rintro e w2 ⟨rfl, rfl⟩) | (go_at_call 45; (with_reducible refine (r_hasF k 106 106 rfl true G106.out _).mono ?_); rintro e w2 ⟨rfl, rfl⟩))
  all_goals
    go_ret
    refine ⟨?_, below_drewN hbw _⟩
    rw [HV.out]
    first
      | (rw [if_neg (by omega)]; rfl)
      | (rw [if_pos (by omega)]; rfl)
theorem r_check_att (k : Nat) (hk : k < 18) (a b c i : Int) (v : Int) (hv : v = if 1 ≤ i ∧ i ≤ 8 then 0 else 11) (ha : rA k a = true) (hb : rB k b = true) (hc : rC k c = true) (g105 : hasF k 105 = false) (g102 : hasF k 102 = false) (g106 : hasF k 106 = false) (g97 : hasF k 97 = true) (w : World) : Calls Tryz.prog 40 #[ins k a b c i] w fun e w' => e = .returned (.int .i64 v) ∧ Below w.heap.size w w' := by
  show Calls _ _ #[.agg _] _ _
  have G105 := Lib.hid g105
  have G102 := Lib.hid g102
  have G106 := Lib.hid g106
  have G97 := Lib.hid g97
  clear g105 g102 g106 g97
  obtain ⟨x, hx⟩ : ∃ x, hasF k 114 = x := ⟨_, rfl⟩
  have HX := Lib.hid (fun w => r_hasF k 114 114 rfl x hx w)
  have HA := Lib.hid (fun w => r_register a x true (show regR a x = true by rw [← hx]; exact ha) w)
  clear hx ha
  obtain ⟨y, hy⟩ : ∃ y, hasF k 115 = y := ⟨_, rfl⟩
  have HY := Lib.hid (fun w => r_hasF k 115 115 rfl y hy w)
  have HB := Lib.hid (fun w => r_register b y true (show regR b y = true by rw [← hy]; exact hb) w)
  clear hy hb
  obtain ⟨z, hz⟩ : ∃ z, hasF k 116 = z := ⟨_, rfl⟩
  have HZ := Lib.hid (fun w => r_hasF k 116 116 rfl z hz w)
  have HC := Lib.hid (fun w => r_register c z true (show regR c z = true by rw [← hz]; exact hc) w)
  clear hz hc
  have HV := Lib.hid hv
  clear hv
  go_enter Tryz.func40, Tryz.ntmps40
  go_wp2_with fail
  refine (r_form k hk _).mono ?_
  rintro e w1 ⟨rfl, hb1⟩
  have hm1 : Mem w1 w.heap.size 40 (boxed k a b c i) := (Mem.new w 40 (boxed k a b c i)).below hb1 (by simp)
  obtain ⟨z0, z1, z2, z3, z4⟩ := boxed_cells hm1
  have hbw := (below_new w (.cells (boxed k a b c i) 40)).trans (hb1.mono (by simp))
  clear hb1 hm1
  go_wp2
  go_quiet ((first | (go_at_call 45; with_reducible exact quiet_same (HX.out _)) | (go_at_call 45; with_reducible exact quiet_same (HY.out _)) | (go_at_call 45; with_reducible exact quiet_same (HZ.out _)) | (go_at_call 68; with_reducible exact quiet_same (HA.out _)) | (go_at_call 68; with_reducible exact quiet_same (HB.out _)) | (go_at_call 68; with_reducible exact quiet_same (HC.out _))))
  go_wp2_with (first | (go_at_call 45; (with_reducible refine (r_hasF k 105 105 rfl false G105.out _).mono ?_); rintro e w2 ⟨rfl, rfl⟩) | (go_at_call 45; (with_reducible refine (r_hasF k 102 102 rfl false G102.out _).mono ?_); rintro e w2 ⟨rfl, rfl⟩) | (go_at_call 45; (with_reducible refine (r_hasF k 106 106 rfl false G106.out _).mono ?_); rintro e w2 ⟨rfl, rfl⟩) | (go_at_call 45; (with_reducible refine (r_hasF k 97 97 rfl true G97.out _).mono ?_); rintro e w2 ⟨rfl, rfl⟩))
  all_goals
    go_ret
    refine ⟨?_, below_drewN hbw _⟩
    rw [HV.out]
    first
      | (rw [if_neg (by omega)]; rfl)
      | (rw [if_pos (by omega)]; rfl)
theorem r_check_cls (k : Nat) (hk : k < 18) (a b c i : Int) (v : Int) (hv : v = if 0 ≤ i ∧ i ≤ 3 then 0 else 11) (ha : rA k a = true) (hb : rB k b = true) (hc : rC k c = true) (g105 : hasF k 105 = false) (g102 : hasF k 102 = false) (g106 : hasF k 106 = false) (g97 : hasF k 97 = false) (g99 : hasF k 99 = true) (w : World) : Calls Tryz.prog 40 #[ins k a b c i] w fun e w' => e = .returned (.int .i64 v) ∧ Below w.heap.size w w' := by
  show Calls _ _ #[.agg _] _ _
  have G105 := Lib.hid g105
  have G102 := Lib.hid g102
  have G106 := Lib.hid g106
  have G97 := Lib.hid g97
  have G99 := Lib.hid g99
  clear g105 g102 g106 g97 g99
  obtain ⟨x, hx⟩ : ∃ x, hasF k 114 = x := ⟨_, rfl⟩
  have HX := Lib.hid (fun w => r_hasF k 114 114 rfl x hx w)
  have HA := Lib.hid (fun w => r_register a x true (show regR a x = true by rw [← hx]; exact ha) w)
  clear hx ha
  obtain ⟨y, hy⟩ : ∃ y, hasF k 115 = y := ⟨_, rfl⟩
  have HY := Lib.hid (fun w => r_hasF k 115 115 rfl y hy w)
  have HB := Lib.hid (fun w => r_register b y true (show regR b y = true by rw [← hy]; exact hb) w)
  clear hy hb
  obtain ⟨z, hz⟩ : ∃ z, hasF k 116 = z := ⟨_, rfl⟩
  have HZ := Lib.hid (fun w => r_hasF k 116 116 rfl z hz w)
  have HC := Lib.hid (fun w => r_register c z true (show regR c z = true by rw [← hz]; exact hc) w)
  clear hz hc
  have HV := Lib.hid hv
  clear hv
  go_enter Tryz.func40, Tryz.ntmps40
  go_wp2_with fail
  refine (r_form k hk _).mono ?_
  rintro e w1 ⟨rfl, hb1⟩
  have hm1 : Mem w1 w.heap.size 40 (boxed k a b c i) := (Mem.new w 40 (boxed k a b c i)).below hb1 (by simp)
  obtain ⟨z0, z1, z2, z3, z4⟩ := boxed_cells hm1
  have hbw := (below_new w (.cells (boxed k a b c i) 40)).trans (hb1.mono (by simp))
  clear hb1 hm1
  go_wp2
  go_quiet ((first | (go_at_call 45; with_reducible exact quiet_same (HX.out _)) | (go_at_call 45; with_reducible exact quiet_same (HY.out _)) | (go_at_call 45; with_reducible exact quiet_same (HZ.out _)) | (go_at_call 68; with_reducible exact quiet_same (HA.out _)) | (go_at_call 68; with_reducible exact quiet_same (HB.out _)) | (go_at_call 68; with_reducible exact quiet_same (HC.out _))))
  go_wp2_with (first | (go_at_call 45; (with_reducible refine (r_hasF k 105 105 rfl false G105.out _).mono ?_); rintro e w2 ⟨rfl, rfl⟩) | (go_at_call 45; (with_reducible refine (r_hasF k 102 102 rfl false G102.out _).mono ?_); rintro e w2 ⟨rfl, rfl⟩) | (go_at_call 45; (with_reducible refine (r_hasF k 106 106 rfl false G106.out _).mono ?_); rintro e w2 ⟨rfl, rfl⟩) | (go_at_call 45; (with_reducible refine (r_hasF k 97 97 rfl false G97.out _).mono ?_); rintro e w2 ⟨rfl, rfl⟩) | (go_at_call 45; (with_reducible refine (r_hasF k 99 99 rfl true G99.out _).mono ?_); rintro e w2 ⟨rfl, rfl⟩))
  all_goals
    go_ret
    refine ⟨?_, below_drewN hbw _⟩
    rw [HV.out]
    first
      | (rw [if_neg (by omega)]; rfl)
      | (rw [if_pos (by omega)]; rfl)
theorem r_check_none (k : Nat) (hk : k < 18) (a b c i : Int) (v : Int) (hv : v = if 0 ≤ i ∧ i ≤ 0 then 0 else 11) (ha : rA k a = true) (hb : rB k b = true) (hc : rC k c = true) (g105 : hasF k 105 = false) (g102 : hasF k 102 = false) (g106 : hasF k 106 = false) (g97 : hasF k 97 = false) (g99 : hasF k 99 = false) (w : World) : Calls Tryz.prog 40 #[ins k a b c i] w fun e w' => e = .returned (.int .i64 v) ∧ Below w.heap.size w w' := by
  show Calls _ _ #[.agg _] _ _
  have G105 := Lib.hid g105
  have G102 := Lib.hid g102
  have G106 := Lib.hid g106
  have G97 := Lib.hid g97
  have G99 := Lib.hid g99
  clear g105 g102 g106 g97 g99
  obtain ⟨x, hx⟩ : ∃ x, hasF k 114 = x := ⟨_, rfl⟩
  have HX := Lib.hid (fun w => r_hasF k 114 114 rfl x hx w)
  have HA := Lib.hid (fun w => r_register a x true (show regR a x = true by rw [← hx]; exact ha) w)
  clear hx ha
  obtain ⟨y, hy⟩ : ∃ y, hasF k 115 = y := ⟨_, rfl⟩
  have HY := Lib.hid (fun w => r_hasF k 115 115 rfl y hy w)
  have HB := Lib.hid (fun w => r_register b y true (show regR b y = true by rw [← hy]; exact hb) w)
  clear hy hb
  obtain ⟨z, hz⟩ : ∃ z, hasF k 116 = z := ⟨_, rfl⟩
  have HZ := Lib.hid (fun w => r_hasF k 116 116 rfl z hz w)
  have HC := Lib.hid (fun w => r_register c z true (show regR c z = true by rw [← hz]; exact hc) w)
  clear hz hc
  have HV := Lib.hid hv
  clear hv
  go_enter Tryz.func40, Tryz.ntmps40
  go_wp2_with fail
  refine (r_form k hk _).mono ?_
  rintro e w1 ⟨rfl, hb1⟩
  have hm1 : Mem w1 w.heap.size 40 (boxed k a b c i) := (Mem.new w 40 (boxed k a b c i)).below hb1 (by simp)
  obtain ⟨z0, z1, z2, z3, z4⟩ := boxed_cells hm1
  have hbw := (below_new w (.cells (boxed k a b c i) 40)).trans (hb1.mono (by simp))
  clear hb1 hm1
  go_wp2
  go_quiet ((first | (go_at_call 45; with_reducible exact quiet_same (HX.out _)) | (go_at_call 45; with_reducible exact quiet_same (HY.out _)) | (go_at_call 45; with_reducible exact quiet_same (HZ.out _)) | (go_at_call 68; with_reducible exact quiet_same (HA.out _)) | (go_at_call 68; with_reducible exact quiet_same (HB.out _)) | (go_at_call 68; with_reducible exact quiet_same (HC.out _))))
  go_wp2_with (first | (go_at_call 45; (with_reducible refine (r_hasF k 105 105 rfl false G105.out _).mono ?_); rintro e w2 ⟨rfl, rfl⟩) | (go_at_call 45; (with_reducible refine (r_hasF k 102 102 rfl false G102.out _).mono ?_); rintro e w2 ⟨rfl, rfl⟩) | (go_at_call 45; (with_reducible refine (r_hasF k 106 106 rfl false G106.out _).mono ?_); rintro e w2 ⟨rfl, rfl⟩) | (go_at_call 45; (with_reducible refine (r_hasF k 97 97 rfl false G97.out _).mono ?_); rintro e w2 ⟨rfl, rfl⟩) | (go_at_call 45; (with_reducible refine (r_hasF k 99 99 rfl false G99.out _).mono ?_); rintro e w2 ⟨rfl, rfl⟩))
  all_goals
    go_ret
    refine ⟨?_, below_drewN hbw _⟩
    rw [HV.out]
    first
      | (rw [if_neg (by omega)]; rfl)
      | (rw [if_pos (by omega)]; rfl)

theorem fit_eq (k : Nat) (hk : k < 18) (a b c i : Int) : fit k a b c i = ((decide (loI k ≤ i) && decide (i ≤ hiI k)) && (rA k a && (rB k b && rC k c))) := by
  unfold fit
  congr 1
  rcases op_cases hk with rfl | rfl | rfl | rfl | rfl | rfl | rfl | rfl | rfl | rfl | rfl | rfl | rfl | rfl | rfl | rfl | rfl | rfl
  all_goals
    simp [pass, letters, opLetters, zap, rA, rB, rC, regR, hasF, formL, forms, Bool.and_assoc]
theorem r_check_op (op a b c i : Int) (h : ¬ (0 ≤ op ∧ op < 18)) (w : World) : Calls Tryz.prog 40 #[ins op a b c i] w fun e w' => e = .returned (.int .i64 10) ∧ Below w.heap.size w w' := by
  show Calls _ _ #[.agg _] _ _
  by_cases h0 : op < 0
  · go_enter Tryz.func40, Tryz.ntmps40
    go_wp2
    go_ret
    exact ⟨rfl, below_new _ _⟩
  · have h1 : 18 ≤ op := by omega
    clear h
    go_enter Tryz.func40, Tryz.ntmps40
    go_wp2
    go_ret
    exact ⟨rfl, below_new _ _⟩
theorem chk_split (k : Nat) (hk : k < 18) (a b c i : Int) : chk k a b c i = if ((decide (loI k ≤ i) && decide (i ≤ hiI k)) && (rA k a && (rB k b && rC k c))) = true then 0 else 11 := by
  rw [chk_in k hk]
  unfold chkV
  rw [fit_eq k hk]
/-- The reference's Check returns what the program's returns. -/
theorem r_check (op a b c i : Int) (hi : InInt i) (w : World) : Calls Tryz.prog 40 #[ins op a b c i] w fun e w' => e = .returned (.int .i64 (chk op a b c i)) ∧ Below w.heap.size w w' := by
  by_cases hop : 0 ≤ op ∧ op < 18
  · obtain ⟨k, rfl⟩ := Int.eq_ofNat_of_zero_le hop.1
    have hk : k < 18 := by omega
    rw [chk_split k hk]
    cases ha : rA k a
    · simp only [Bool.false_and, Bool.and_false, Bool.false_eq_true, if_false]
      exact r_check_A k hk a b c i ha w
    · cases hb : rB k b
      · simp only [Bool.false_and, Bool.and_false, Bool.false_eq_true, if_false]
        exact r_check_B k hk a b c i ha hb w
      · cases hc : rC k c
        · simp only [Bool.and_false, Bool.false_eq_true, if_false]
          exact r_check_C k hk a b c i ha hb hc w
        · have e : ∀ lo hi : Int, (if ((decide (lo ≤ i) && decide (i ≤ hi)) && (true && (true && true))) = true then (0 : Int) else 11) = if lo ≤ i ∧ i ≤ hi then 0 else 11 := by
            intro lo hi
            by_cases hh : lo ≤ i ∧ i ≤ hi
            · rw [if_pos hh, decide_eq_true hh.1, decide_eq_true hh.2]; rfl
            · rw [if_neg hh, if_neg]
              intro h2
              apply hh
              simp only [Bool.and_eq_true, decide_eq_true_eq] at h2
              exact h2.1
          rw [e]
          have H := cls_of k hk
          cases H with
          | any h l u =>
            rw [l, u, if_pos ⟨hi.1, hi.2⟩]
            exact r_check_any k hk a b c i 0 ha hb hc h w
          | fn h1 h l u =>
            rw [l, u]
            exact r_check_fn k hk a b c i _ rfl ha hb hc h1 h w
          | jump h1 h2 h l u =>
            rw [l, u]
            exact r_check_jump k hk a b c i _ rfl ha hb hc h1 h2 h w
          | att h1 h2 h3 h l u =>
            rw [l, u]
            exact r_check_att k hk a b c i _ rfl ha hb hc h1 h2 h3 h w
          | cls h1 h2 h3 h4 h l u =>
            rw [l, u]
            exact r_check_cls k hk a b c i _ rfl ha hb hc h1 h2 h3 h4 h w
          | none h1 h2 h3 h4 h5 l u =>
            rw [l, u]
            exact r_check_none k hk a b c i _ rfl ha hb hc h1 h2 h3 h4 h5 w
  · rw [chk_op op a b c i hop]
    exact r_check_op op a b c i hop w
theorem r_check_v {op a b c i v : Int} (hi : InInt i) (hv : chk op a b c i = v) (w : World) : Calls Tryz.prog 40 #[ins op a b c i] w fun e w' => e = .returned (.int .i64 v) ∧ Below w.heap.size w w' := by
  subst hv
  exact r_check op a b c i hi w
end Go.Proofs.YtcplhochgngedaaGreatDoor.RefA
