/-
  Contract of the reference's Parse of layer 3.
-/
import Derived.Test.YtcplhochgngedaaGreatDoorRefP
import Derived.Test.YtcplhochgngedaaGreatDoorRefF
import Derived.Deep.RegionHeld3
namespace Go.Proofs.YtcplhochgngedaaGreatDoor.RefQ
open Go.ChangeShapes Go.WideShapes Go.ChangeAt Go.RowKit
open PlainT IsaE IsaS BlkW IsaA IsaB IsaF IsaP IsaQ IsaX RefA RefF RefP
set_option linter.unusedVariables false
set_option maxHeartbeats 1000000
set_option maxRecDepth 100000

/-! ### The function's number. -/
theorem r_fnumber (s : ByteArray) (w : World) : Calls Tryz.prog 55 #[.string s] w fun e w' => e = .returned (.tuple #[.int .i64 ((fnOf (bts s)).getD 0 : Nat), .bool (fnOf (bts s)).isSome]) ∧ Below w.heap.size w w' := by
  obtain ⟨cs, hcs⟩ : ∃ cs, (IsaE.strs fnNames).toArray = cs := ⟨_, rfl⟩
  have hcell := Lib.hid (fun n hn => new_str fnNames w n hn)
  rw [hcs] at hcell
  have HS := Lib.hid hcs
  clear hcs
  go_enter Tryz.func55, Tryz.ntmps55
  go_wp2_with (go_at_call 88; refine (r_names _).mono ?_; rw [HS.out]; rintro e w1 ⟨rfl, rfl⟩)
  go_loop [5] (fun i => ∃ k : Nat, k ≤ 22 ∧ i = .int .i64 k ∧ Un fnNames (bts s) k) (fun i => 22 - (intOf i).toNat)
  case atStart => exact ⟨0, by omega, rfl, Un.zero _ _⟩
  case round =>
    obtain ⟨k, hk, rfl, hu⟩ := hrel
    by_cases hlt : k < 22
    · have hi := hcell.out k hlt
      have hfb : bts (fnm k) = fnNames.getD k [] := bytes_mk _
      have hi2 : (w.alloc (.cells cs 9)).cell? ⟨w.heap.size, k, none⟩ = some (.string (fnm k)) := hi
      clear hi
      by_cases he : fnm k = s
      · have hf := Lib.hid (find_at (L := fnNames) (t := bts s) (by show k < 22; omega) (by rw [← hfb, he]) hu)
        clear hfb
        subst he
        go_wp2
        go_ret2
        exact ⟨by unfold fnOf; rw [hf.out]; rfl, below_new _ _⟩
      · have hq := str_ne (a := fnm k) (b := s) (fun e => he (IsaP.bytes_inj e))
        have hn := Un.next hu (by rw [← hfb]; exact fun e => he (IsaP.bytes_inj e))
        clear he hfb
        go_wp2
        go_round
        case rel => exact ⟨k + 1, by omega, by go_num, hn⟩
        case measure => simp [intOf]; omega
    · have hk' : k = 22 := by omega
      subst hk'
      have hf := Lib.hid (find_none (L := fnNames) hu)
      go_wp2
      go_ret2
      exact ⟨by unfold fnOf; rw [hf.out]; rfl, below_new _ _⟩

/-! ### The operation's number. -/
/-- What the first loop of Parse has found behind k operations. -/
def opR (t : List UInt8) : Nat → Int
  | 0 => -1
  | k + 1 => if k ≠ 3 ∧ opNames.getD k [] = t then k else opR t k
theorem names_inj (a b : Nat) (ha : a < 18) (hb : b < 18) (h : opNames.getD a [] = opNames.getD b []) : a = b := by
  have all : ∀ a : Fin 18, ∀ b : Fin 18, opNames.getD a.val [] = opNames.getD b.val [] → a = b := by decide +kernel
  exact congrArg Fin.val (all ⟨a, ha⟩ ⟨b, hb⟩ h)
theorem opR_un (t : List UInt8) : ∀ k, (∀ j, j < k → opNames.getD j [] ≠ t) → opR t k = -1
  | 0, _ => rfl
  | k + 1, h => by
    unfold opR
    rw [if_neg (fun hh => h k (by omega) hh.2)]
    exact opR_un t k (fun j hj => h j (by omega))
theorem opR_at (t : List UInt8) (j : Nat) (hj : j < 18) (h3 : j ≠ 3) (ht : opNames.getD j [] = t) : ∀ k, k ≤ 18 → opR t k = if j < k then (j : Int) else -1
  | 0, _ => by rw [if_neg (by omega)]; rfl
  | k + 1, hk => by
    unfold opR
    by_cases e : k = j
    · subst e
      rw [if_pos ⟨h3, ht⟩, if_pos (by omega)]
    · rw [if_neg (fun hh => e (names_inj k j (by omega) hj (hh.2.trans ht.symm))), opR_at t j hj h3 ht k (by omega)]
      by_cases hjk : j < k
      · rw [if_pos hjk, if_pos (by omega)]
      · rw [if_neg hjk, if_neg (by omega)]
theorem opR_all (t : List UInt8) (hne : t ≠ []) : opR t 18 = match opOf t with | some j => (j : Int) | none => -1 := by
  cases ho : opOf t with
  | none =>
    unfold opOf at ho
    rw [List.findIdx?_eq_none_iff] at ho
    refine opR_un t 18 (fun j hj e => ?_)
    have hl : opNames.length = 18 := by decide
    have := ho (opNames.getD j []) (by rw [List.getD_eq_getElem?_getD, List.getElem?_eq_getElem (by omega)]; exact List.getElem_mem _)
    rw [e] at this
    simp at this
  | some j =>
    unfold opOf at ho
    rw [List.findIdx?_eq_some_iff_getElem] at ho
    obtain ⟨hlt, he, _⟩ := ho
    have hl : opNames.length = 18 := by decide
    have hj : opNames.getD j [] = t := by
      rw [List.getD_eq_getElem?_getD, List.getElem?_eq_getElem hlt]
      simpa using he
    rw [opR_at t j (by omega) (by rintro rfl; exact hne hj.symm) hj 18 (by omega), if_pos (by omega)]

/-! ### The letters of the reference. -/
def conv (l : UInt8) : UInt8 := if l = 114 then 97 else if l = 115 then 98 else if l = 116 then 99 else 110
/-- The operands that are left behind j letters. -/
def left (k j : Nat) : List UInt8 := (((formL k).drop j).filter (· ≠ 102)).map conv
theorem left_start (k : Nat) (hk : k < 18) : left k 0 = letters k := by
  rcases op_cases hk with rfl | rfl | rfl | rfl | rfl | rfl | rfl | rfl | rfl | rfl | rfl | rfl | rfl | rfl | rfl | rfl | rfl | rfl <;> rfl
theorem left_f (k j : Nat) (hj : j < (formL k).length) (h : (formL k)[j] = 102) : left k j = left k (j + 1) := by
  unfold left
  rw [List.drop_eq_getElem_cons hj, List.filter_cons_of_neg (by simp [h])]
theorem left_l (k j : Nat) (hj : j < (formL k).length) (h : (formL k)[j] ≠ 102) : left k j = conv (formL k)[j] :: left k (j + 1) := by
  unfold left
  rw [List.drop_eq_getElem_cons hj, List.filter_cons_of_pos (by simpa using h)]
  rfl
theorem left_end (k : Nat) : left k (formL k).length = [] := by
  unfold left
  rw [List.drop_length]
  rfl
theorem form_le4 (k : Nat) : (formL k).length ≤ 4 := by
  by_cases hk : k < 18
  · have all : ∀ k : Fin 18, (formL k.val).length ≤ 4 := by decide
    exact all ⟨k, hk⟩
  · unfold formL
    rw [List.getD_eq_getElem?_getD, List.getElem?_eq_none (by show 18 ≤ k; omega)]
    simp
theorem formB_at (k j : Nat) (hj : j < (formL k).length) (h : j < (formB k).size) : (formB k)[j]'h = (formL k)[j] := rfl

theorem left_l' (k j : Nat) (hj : j < (formL k).length) (l : UInt8) (e : (formL k)[j] = l) (h : l ≠ 102) : left k j = conv l :: left k (j + 1) := by
  subst e
  exact left_l k j hj h
theorem form_letters (k j : Nat) (hj : j < (formL k).length) : (formL k)[j] = 102 ∨ (formL k)[j] ≠ 102 := by
  by_cases h : (formL k)[j] = 102
  · exact .inl h
  · exact .inr h
theorem u8_ne {l : UInt8} {n : UInt8} (h : l ≠ n) : ((l.toNat : Int) == (n.toNat : Int)) = false := by
  rw [beq_eq_false_iff_ne]
  intro e
  exact h (UInt8.toNat_inj.1 (by omega))
theorem conv_other {l : UInt8} (h1 : l ≠ 114) (h2 : l ≠ 115) (h3 : l ≠ 116) : conv l = 110 := by
  unfold conv
  rw [if_neg h1, if_neg h2, if_neg h3]
theorem r_parse_long (s : ByteArray) (hs : 200 < s.size) (w : World) : Calls Tryz.prog 28 #[.string s] w fun e w' => ParseIs s w e w' := by
  have HQ := Lib.hid (show parseQ s = none by unfold parseQ; rw [if_pos hs])
  have HE := Lib.hid (show parseE s = 3 by unfold parseE; rw [if_pos hs])
  go_enter Tryz.func28, Tryz.ntmps28
  go_wp2
  refine bodyPost_ret (v := .tuple #[insR (parseQ s), .int .i64 (parseE s)]) ?_ rfl ⟨below_new _ _, rfl⟩
  rw [HQ.out, HE.out]
  simp [results, Tryz.results28, go_sem, insR]
theorem drew_below (w : World) : Below w.heap.size w w.drew := ⟨rfl, rfl, rfl, Nat.le_refl _, fun _ _ => rfl⟩
theorem keep_call {a : Addr} {v : Value} {w W' : World} (hc : w.cell? a = some v) (hk : Below w.drew.heap.size w.drew W') : W'.cell? a = some v ∧ Below w.heap.size w W' :=
  ⟨(hk.cell (p := a) (World.block_lt_of_cell? _ _ hc)).trans hc, (drew_below w).trans hk⟩
theorem readV_cons (x : ByteArray) (r : List ByteArray) : readV ((x :: r).map bts) = (named (bts x)).bind fun y => if (letters y.1).length = r.length then (opers (letters y.1) (r.map bts) ⟨0, 0, 0, y.2⟩).map fun q => (y.1, q) else none := by
  rw [List.map_cons]
  unfold readV
  simp only [List.length_map]
/-- Parse, its words known: the first loop. -/
def ZERO : Array Value := #[.int .i64 0, .int .i64 0, .int .i64 0, .int .i64 0, .int .i64 0]
theorem r_parse_short (s : ByteArray) (hs2 : s.size ≤ 200) (w : World) : Calls Tryz.prog 28 #[.string s] w fun e w' => ParseIs s w e w' := by
  have hs : ¬ 200 < s.size := by omega
  have HQ := Lib.hid (show parseQ s = (readV ((words s).map bts)).bind fun x => if chk x.1 x.2.a x.2.b x.2.c x.2.i = 0 then some x else none by unfold parseQ; rw [if_neg hs])
  have HE := Lib.hid (show parseE s = match readV ((words s).map bts) with | none => 4 | some x => chk x.1 x.2.a x.2.b x.2.c x.2.i by unfold parseE; rw [if_neg hs]; rfl)
  have HB := Lib.hid (words_size s)
  clear hs
  go_enter Tryz.func28, Tryz.ntmps28
  go_wp2_with fail
  refine (r_Words s (Nat.le_trans hs2 (by decide)) _).mono ?_
  rintro e w1 ⟨A, n, c, rfl, hrow, hn, hb1⟩
  have hm1 : Mem w1 w.heap.size 40 ZERO := (Mem.new w 40 ZERO).below hb1 (by simp)
  have hbw := (below_new w (.cells ZERO 40)).trans (hb1.mono (by simp))
  have hlt1 := hm1.lt
  clear hb1
  generalize words s = ws at hrow HQ HE HB
  cases ws with
  | nil =>
    obtain rfl : n = 0 := hrow.1.symm
    have HQ2 := Lib.hid (show parseQ s = none from HQ.out)
    have HE2 := Lib.hid (show parseE s = 4 from HE.out)
    obtain ⟨z0, z1, z2, z3, z4⟩ := boxed_cells (op := 0) (a := 0) (b := 0) (c := 0) (i := 0) hm1
    have hfz := hm1.frozen
    have Y := Lib.hid (boxed_cells (op := 0) (a := 0) (b := 0) (c := 0) (i := 0) (mem_store5 hm1 rfl (.int .i64 0) (.int .i64 0) (.int .i64 0) (.int .i64 0) (.int .i64 0)))
    have hb4 := below_store5 hbw (Nat.le_refl _) (.int .i64 0) (.int .i64 0) (.int .i64 0) (.int .i64 0) (.int .i64 0)
    clear hm1
    go_wp2
    refine bodyPost_ret (v := .tuple #[insR (parseQ s), .int .i64 (parseE s)]) ?_ rfl ⟨hb4, rfl⟩
    rw [HQ2.out, HE2.out]
    simp [results, Tryz.results28, go_sem, insR, Y.out.1, Y.out.2.1, Y.out.2.2.1, Y.out.2.2.2.1, Y.out.2.2.2.2]
  | cons x r =>
    obtain ⟨hl, hcl⟩ := hrow
    have hn0 : 0 < n := by rw [← hl]; simp
    obtain ⟨b, off, rfl, hbl, hcell⟩ := hcl hn0
    have hx0 : w1.cell? ⟨b, off, none⟩ = some (.string x) := hcell 0 x rfl
    have HC := Lib.hid hcell
    have hxs := (HB.out x (by simp))
    have hxne : bts x ≠ [] := by
      intro e0
      have h1 : 0 = x.size := by rw [← bytes_len, e0]; rfl
      omega
    have HNE := Lib.hid hxne
    have HL := Lib.hid hl
    have HLr := Lib.hid (show r.length + 1 = n by rw [← hl]; rfl)
    have hqn : ((n : Int) == 0) = false := by rw [beq_eq_false_iff_ne]; omega
    clear hcl hcell hl hxne
    go_wp2
    go_loopw [6] (fun iv wr => ∃ k : Nat, k ≤ 18 ∧ iv = .int .i64 k ∧ Mem wr w1.heap.size 40 #[.int .i64 (opR (bts x) k), .int .i64 0, .int .i64 0, .int .i64 0, .int .i64 0] ∧ Mem wr w.heap.size 40 ZERO ∧ Below w.heap.size w wr ∧ Below w1.heap.size w1 wr ∧ w1.heap.size < wr.heap.size) (fun iv _ => 18 - (intOf iv).toNat)
    case atStart => exact ⟨0, by omega, rfl, Mem.new _ _ _, hm1.alloc _, hbw.alloc (by omega) _, below_new _ _, by rw [size_new]; omega⟩
    case round =>
      obtain ⟨k, hk, rfl, hmi, hmz, hbr, hb1, hszr⟩ := hrel
      clear hm1 hbw
      have hxr : wr.cell? ⟨b, off, none⟩ = some (.string x) := (hb1.cell (p := ⟨b, off, none⟩) hbl).trans hx0
      by_cases hlt : k < 18
      · by_cases h3 : k = 3
        · subst h3
          have e : opR (bts x) (3 + 1) = opR (bts x) 3 := by
            rw [opR, if_neg (by simp)]
          have hmi2 := Lib.hid (show Mem wr w1.heap.size 40 #[.int .i64 (opR (bts x) (3 + 1)), .int .i64 0, .int .i64 0, .int .i64 0, .int .i64 0] by rw [e]; exact hmi)
          clear e hmi
          go_wp2
          go_quiet (fail)
          go_wp2
          go_roundw
          case rel => exact ⟨3 + 1, by omega, by go_num, hmi2.out, hmz, below_drewN hbr _, below_drewN hb1 _, hszr⟩
          case measure => simp [intOf]
        · have hq3 : ((k : Int) != 3) = true := by rw [bne_iff_ne]; omega
          have hfb : bts (opm k) = opNames.getD k [] := bytes_mk _
          by_cases he : opm k = x
          · have hopk := Lib.hid (show opR (bts x) (k + 1) = k by rw [opR, if_pos ⟨h3, by rw [← hfb, he]⟩])
            have hq : ((opm k).toList == x.toList) = true := by rw [he]; simp
            clear he hfb
            go_wp2
            go_region_held3 (fun w' => w'.cell? ⟨b, off, none⟩ = some (.string x) ∧ Below wr.heap.size wr w') (first | exact ⟨hxr, drew_below _⟩ | exact keep_call hxr (by assumption) | go_keep)
              (first | (go_at_call 54; refine (r_name k hlt _).mono ?_; rintro e w' ⟨rfl, hbb⟩))
            have hbb2 : Below wr.heap.size wr w' := (drew_below wr).trans hbb
            have hmi2 := hmi.below hbb2 hmi.lt
            have hmz2 := hmz.below hbb2 hmz.lt
            have hbr2 := hbr.trans (hbb2.mono hbr.size)
            have hb12 := hb1.trans (hbb2.mono hb1.size)
            have hszr2 : w1.heap.size < w'.heap.size := hmi2.lt
            clear hbb hbb2 hmi hmz hbr hb1 hszr hxr
            rename_i hHeld
            clear hHeld
            have hfz := hmi2.frozen 0
            have hold : w'.cell? ⟨w1.heap.size, 0, none⟩ = some (.int .i64 (opR (bts x) k)) := hmi2.cell 0
            have hmi3 := hmi2.set_ 0 (.int .i64 k)
            have hmi4 := Lib.hid (show Mem (w'.setCell ⟨w1.heap.size, 0, none⟩ (.int .i64 k)) w1.heap.size 40 #[.int .i64 (opR (bts x) (k + 1)), .int .i64 0, .int .i64 0, .int .i64 0, .int .i64 0] by rw [hopk.out]; exact hmi3)
            have hmz3 := hmz2.far (a := ⟨w1.heap.size, 0, none⟩) (by simp; omega) (.int .i64 k)
            have hbr3 := hbr2.setCell (p := ⟨w1.heap.size, 0, none⟩) (by simp; omega) (.int .i64 k)
            have hb13 := hb12.setCell (p := ⟨w1.heap.size, 0, none⟩) (by simp) (.int .i64 k)
            clear hmi2 hmi3 hmz2 hbr2 hb12
            go_wp2
            go_roundw
            case rel =>
              have hz : w1.heap.size < (w'.setCell ⟨w1.heap.size, 0, none⟩ (.int .i64 k)).heap.size := by simp [World.setCell]; omega
              exact ⟨k + 1, by omega, by go_num, hmi4.out, hmz3, hbr3, hb13, hz⟩
            case measure => simp [intOf]; omega
          · have hopk := Lib.hid (show opR (bts x) (k + 1) = opR (bts x) k by rw [opR, if_neg (fun hh => he (IsaP.bytes_inj (hfb.trans hh.2)))])
            have hq : ((opm k).toList == x.toList) = false := str_ne (fun e => he (IsaP.bytes_inj e))
            clear he hfb
            go_wp2
            go_region_held3 (fun w' => w'.cell? ⟨b, off, none⟩ = some (.string x) ∧ Below wr.heap.size wr w') (first | exact ⟨hxr, drew_below _⟩ | exact keep_call hxr (by assumption) | go_keep)
              (first | (go_at_call 54; refine (r_name k hlt _).mono ?_; rintro e w' ⟨rfl, hbb⟩))
            have hbb2 : Below wr.heap.size wr w' := (drew_below wr).trans hbb
            have hmi2 := hmi.below hbb2 hmi.lt
            have hmz2 := hmz.below hbb2 hmz.lt
            have hbr2 := hbr.trans (hbb2.mono hbr.size)
            have hb12 := hb1.trans (hbb2.mono hb1.size)
            have hszr2 : w1.heap.size < w'.heap.size := hmi2.lt
            clear hbb hbb2 hmi hmz hbr hb1 hszr hxr
            rename_i hHeld
            clear hHeld
            have hmi4 := Lib.hid (show Mem w' w1.heap.size 40 #[.int .i64 (opR (bts x) (k + 1)), .int .i64 0, .int .i64 0, .int .i64 0, .int .i64 0] by rw [hopk.out]; exact hmi2)
            clear hmi2
            go_wp2
            go_roundw
            case rel =>
              exact ⟨k + 1, by omega, by go_num, hmi4.out, hmz2, hbr2, hb12, hszr2⟩
            case measure => simp [intOf]; omega
      · have hk' : k = 18 := by omega
        subst hk'
        have hop := opR_all (bts x) HNE.out
        have hRV := readV_cons x r
        rw [hop] at hmi
        have HRV := Lib.hid hRV
        clear hop hRV
        go_wp2_with fail
        refine (r_fnumber x _).mono ?_
        rintro e w2 ⟨rfl, hb2⟩
        have hmi2 := hmi.below hb2 hmi.lt
        have hmz2 := hmz.below hb2 hmz.lt
        have hbr2 := hbr.trans (hb2.mono hbr.size)
        have hb12 := hb1.trans (hb2.mono hb1.size)
        have hszr2 : w1.heap.size < w2.heap.size := hmi2.lt
        clear hb2 hmi hmz hbr hb1 hszr hxr
        have hold0 : w2.cell? ⟨w1.heap.size, 0, none⟩ = some (.int .i64 (match opOf (bts x) with | some j => (j : Int) | none => -1)) := hmi2.cell 0
        cases hf : fnOf (bts x) with
        | none =>
          cases ho : opOf (bts x) with
          | none =>
            rw [ho] at hold0 hmi2
            have hR : readV ((x :: r).map bts) = none := by
              rw [HRV.out, show named (bts x) = none by unfold named; rw [hf, ho]; rfl]
              rfl
            have HQ2 := Lib.hid (show parseQ s = none by rw [HQ.out, hR]; rfl)
            have HE2 := Lib.hid (show parseE s = 4 by rw [HE.out, hR])
            clear hR hf ho
            obtain ⟨z0, z1, z2, z3, z4⟩ := boxed_cells (op := 0) (a := 0) (b := 0) (c := 0) (i := 0) hmz2
            have hfz := hmz2.frozen
            have Y := Lib.hid (boxed_cells (op := 0) (a := 0) (b := 0) (c := 0) (i := 0) (mem_store5 hmz2 rfl (.int .i64 0) (.int .i64 0) (.int .i64 0) (.int .i64 0) (.int .i64 0)))
            have hb4 := below_store5 hbr2 (Nat.le_refl _) (.int .i64 0) (.int .i64 0) (.int .i64 0) (.int .i64 0) (.int .i64 0)
            clear hmi2 hmz2
            go_wp2
            refine bodyPost_ret (v := .tuple #[insR (parseQ s), .int .i64 (parseE s)]) ?_ rfl ⟨hb4, rfl⟩
            rw [HQ2.out, HE2.out]
            simp [results, Tryz.results28, go_sem, insR, Y.out.1, Y.out.2.1, Y.out.2.2.1, Y.out.2.2.2.1, Y.out.2.2.2.2]
          | some j =>
            rw [ho] at hold0 hmi2
            have hj18 : j < 18 := named_lt (i := 0) (show named (bts x) = some (j, 0) by unfold named; rw [hf, ho]; rfl)
            have HNM := Lib.hid (show named (bts x) = some (j, (0 : Int)) by unfold named; rw [hf, ho]; rfl)
            have hmiW : Mem w2 w1.heap.size 40 (qbox j ⟨0, 0, 0, 0⟩) := hmi2
            have HI0 : InInt 0 := ⟨by omega, by omega⟩
            have hmzW := hmz2
            have hbrW := hbr2
            have hb1W := hb12
            clear hmi2 hmz2 hbr2 hb12 hf ho
            go_wp2_with fail
            refine (r_form j hj18 _).mono ?_
            rintro e w3 ⟨rfl, hb3⟩
            have hmi3 := hmiW.below hb3 hmiW.lt
            have hmz3 := hmzW.below hb3 hmzW.lt
            have hbr3 := hbrW.trans (hb3.mono hbrW.size)
            have hb13 := hb1W.trans (hb3.mono hb1W.size)
            have hF4 := form_le4 j
            have hF4B : (formB j).size ≤ 4 := hF4
            clear hb3 hmiW hmzW hbrW hb1W
            go_wp2
            go_loopw [10, 11] (fun av jv wr => ∃ (jj p : Nat) (q : Fields), jj ≤ (formL j).length ∧ p + 1 ≤ n ∧ av = .int .i64 ((p + 1 : Nat) : Int) ∧ jv = .int .i64 jj ∧ Mem wr w1.heap.size 40 (qbox j q) ∧ Mem wr w.heap.size 40 ZERO ∧ Hid (opers (letters j) (r.map bts) ⟨0, 0, 0, 0⟩ = opers (left j jj) ((r.map bts).drop p) q) ∧ p + (left j jj).length = (letters j).length ∧ Below w.heap.size w wr ∧ Below w1.heap.size w1 wr ∧ InInt q.i) (fun _ jv _ => (formL j).length - (intOf jv).toNat)
            case atStart => exact ⟨0, 0, ⟨0, 0, 0, 0⟩, by omega, by omega, rfl, rfl, hmi3, hmz3, (by rw [left_start j hj18]; exact rfl), by rw [left_start j hj18]; omega, hbr3, hb13, HI0⟩
            case round =>
              obtain ⟨jj, p, q, hj, hp, rfl, rfl, hmi5, hmz5, hop, hll, hbr5, hb15, hqi⟩ := hrel
              clear hmi3 hmz3 hbr3 hb13
              by_cases hjl : jj < (formL j).length
              · have hjB : jj < (formB j).size := hjl
                obtain ⟨l, hl⟩ : ∃ l, (formB j)[jj]'hjB = l := ⟨_, rfl⟩
                have hlL : (formL j)[jj] = l := hl
                by_cases h102 : l = 102
                · subst h102
                  have hleft := left_f j jj hjl hlL
                  have hop2 := Lib.hid (show opers (letters j) (r.map bts) ⟨0, 0, 0, 0⟩ = opers (left j (jj + 1)) ((r.map bts).drop p) q by rw [hop.out, hleft])
                  rw [hleft] at hll
                  clear hop hleft hlL
                  go_wp2
                  go_roundw
                  case rel => exact ⟨jj + 1, p, q, by omega, by omega, rfl, by go_num, hmi5, hmz5, hop2, hll, hbr5, hb15, hqi⟩
                  case measure => simp [intOf]; omega
                · have hleft := left_l' j jj hjl l hlL h102
                  have q102 : ((l.toNat : Int) == 102) = false := u8_ne h102
                  by_cases h114 : l = 114
                  · subst h114
                    clear hlL
                    by_cases hpn : p + 1 = n
                    · have hR : readV ((x :: r).map bts) = none := by
                        rw [HRV.out, HNM.out, Option.bind_some]
                        simp only
                        rw [if_neg (by have h1 := hll; rw [hleft] at h1; rw [List.length_cons] at h1; have h2 := HLr.out; omega)]
                      have HQ2 := Lib.hid (show parseQ s = none by rw [HQ.out, hR]; rfl)
                      have HE2 := Lib.hid (show parseE s = 4 by rw [HE.out, hR])
                      have hqa : ((p : Int) + 1 == (n : Int)) = true := by rw [beq_iff_eq]; omega
                      clear hR hleft hop
                      obtain ⟨z0, z1, z2, z3, z4⟩ := boxed_cells (op := 0) (a := 0) (b := 0) (c := 0) (i := 0) hmz5
                      have hfz := hmz5.frozen
                      have Y := Lib.hid (boxed_cells (op := 0) (a := 0) (b := 0) (c := 0) (i := 0) (mem_store5 hmz5 rfl (.int .i64 0) (.int .i64 0) (.int .i64 0) (.int .i64 0) (.int .i64 0)))
                      have hb4 := below_store5 hbr5 (Nat.le_refl _) (.int .i64 0) (.int .i64 0) (.int .i64 0) (.int .i64 0) (.int .i64 0)
                      clear hmi5 hmz5
                      go_wp2
                      refine bodyPost_ret (v := .tuple #[insR (parseQ s), .int .i64 (parseE s)]) ?_ rfl ⟨hb4, rfl⟩
                      rw [HQ2.out, HE2.out]
                      simp [results, Tryz.results28, go_sem, insR, Y.out.1, Y.out.2.1, Y.out.2.2.1, Y.out.2.2.2.1, Y.out.2.2.2.2]
                    · have hqa : ((p : Int) + 1 == (n : Int)) = false := by rw [beq_eq_false_iff_ne]; omega
                      have hpr : p < r.length := by have h2 := HLr.out; omega
                      obtain ⟨t, ht⟩ : ∃ t, r[p]? = some t := ⟨r[p], List.getElem?_eq_getElem hpr⟩
                      have hts := (HB.out t (List.mem_cons_of_mem _ (List.mem_of_getElem? ht))).2
                      have hwc : wr.cell? ⟨b, off + (p + 1), none⟩ = some (.string t) := (hb15.cell (p := ⟨b, off + (p + 1), none⟩) hbl).trans (HC.out (p + 1) t (by rw [List.getElem?_cons_succ]; exact ht))
                      have hstep := Lib.hid (show opers (left j jj) ((r.map bts).drop p) q = (operOf 97 (bts t)).bind fun v => opers (left j (jj + 1)) ((r.map bts).drop (p + 1)) (setF 97 v q) by
                        have h1 : p < (r.map bts).length := by rw [List.length_map]; exact hpr
                        have h2 : (r.map bts)[p] = bts t := by
                          rw [List.getElem_map]
                          rw [List.getElem?_eq_getElem hpr] at ht
                          injection ht with ht
                          rw [ht]
                        rw [hleft, List.drop_eq_getElem_cons h1, h2]
                        rfl)
                      have hll2 : p + 1 + (left j (jj + 1)).length = (letters j).length := by have h1 := hll; rw [hleft, List.length_cons] at h1; omega
                      have HLF := Lib.hid hleft
                      clear hleft ht
                      go_wp2_with fail
                      refine (r_Register t _).mono ?_
                      rintro e w5 ⟨rfl, v, rfl, hv⟩

                      cases ho2 : regOf (bts t) with
                      | none =>
                        have hR : readV ((x :: r).map bts) = none := by
                          have h3 : opers (letters j) (r.map bts) ⟨0, 0, 0, 0⟩ = none := by
                            rw [hop.out, hstep.out, show operOf 97 (bts t) = none from ho2]
                            rfl
                          rw [HRV.out, HNM.out, Option.bind_some]
                          simp only
                          rw [h3]
                          split <;> rfl
                        have HQ2 := Lib.hid (show parseQ s = none by rw [HQ.out, hR]; rfl)
                        have HE2 := Lib.hid (show parseE s = 4 by rw [HE.out, hR])
                        clear hR hv ho2 hstep hop
                        obtain ⟨z0, z1, z2, z3, z4⟩ := boxed_cells (op := 0) (a := 0) (b := 0) (c := 0) (i := 0) hmz5
                        have hfz := hmz5.frozen
                        have Y := Lib.hid (boxed_cells (op := 0) (a := 0) (b := 0) (c := 0) (i := 0) (mem_store5 hmz5 rfl (.int .i64 0) (.int .i64 0) (.int .i64 0) (.int .i64 0) (.int .i64 0)))
                        have hb4 := below_store5 hbr5 (Nat.le_refl _) (.int .i64 0) (.int .i64 0) (.int .i64 0) (.int .i64 0) (.int .i64 0)
                        clear hmi5 hmz5
                        go_wp2
                        refine bodyPost_ret (v := .tuple #[insR (parseQ s), .int .i64 (parseE s)]) ?_ rfl ⟨hb4, rfl⟩
                        rw [HQ2.out, HE2.out]
                        simp [results, Tryz.results28, go_sem, insR, Y.out.1, Y.out.2.1, Y.out.2.2.1, Y.out.2.2.2.1, Y.out.2.2.2.2]
                      | some u =>
                        have hvu := hv u ho2
                        subst hvu
                        have hop2 := Lib.hid (show opers (letters j) (r.map bts) ⟨0, 0, 0, 0⟩ = opers (left j (jj + 1)) ((r.map bts).drop (p + 1)) (setF 97 v q) by
                          rw [hop.out, hstep.out, show operOf 97 (bts t) = some v from ho2]
                          rfl)

                        clear hv ho2 hstep hop
                        have hold : World.cell? _ ⟨w1.heap.size, 1, none⟩ = some (.int .i64 q.a) := hmi5.cell 1
                        have hfz := hmi5.frozen 1
                        have hmi7 : Mem _ w1.heap.size 40 (qbox j (setF 97 v q)) := hmi5.set_ 1 (.int .i64 v)
                        have hmz7 := hmz5.far (a := ⟨w1.heap.size, 1, none⟩) (by simp; omega) (.int .i64 v)
                        have hbr7 := hbr5.setCell (p := ⟨w1.heap.size, 1, none⟩) (by simp; omega) (.int .i64 v)
                        have hb17 := hb15.setCell (p := ⟨w1.heap.size, 1, none⟩) (by simp) (.int .i64 v)
                        clear hmi5 hmz5 hbr5 hb15
                        go_wp2
                        go_roundw
                        case rel => exact ⟨jj + 1, p + 1, setF 97 v q, by omega, by omega, by go_num, by go_num, hmi7, hmz7, hop2, hll2, hbr7, hb17, hqi⟩
                        case measure => simp [intOf]; omega
                  · by_cases h115 : l = 115
                    · subst h115
                      clear hlL
                      by_cases hpn : p + 1 = n
                      · have hR : readV ((x :: r).map bts) = none := by
                          rw [HRV.out, HNM.out, Option.bind_some]
                          simp only
                          rw [if_neg (by have h1 := hll; rw [hleft] at h1; rw [List.length_cons] at h1; have h2 := HLr.out; omega)]
                        have HQ2 := Lib.hid (show parseQ s = none by rw [HQ.out, hR]; rfl)
                        have HE2 := Lib.hid (show parseE s = 4 by rw [HE.out, hR])
                        have hqa : ((p : Int) + 1 == (n : Int)) = true := by rw [beq_iff_eq]; omega
                        clear hR hleft hop
                        obtain ⟨z0, z1, z2, z3, z4⟩ := boxed_cells (op := 0) (a := 0) (b := 0) (c := 0) (i := 0) hmz5
                        have hfz := hmz5.frozen
                        have Y := Lib.hid (boxed_cells (op := 0) (a := 0) (b := 0) (c := 0) (i := 0) (mem_store5 hmz5 rfl (.int .i64 0) (.int .i64 0) (.int .i64 0) (.int .i64 0) (.int .i64 0)))
                        have hb4 := below_store5 hbr5 (Nat.le_refl _) (.int .i64 0) (.int .i64 0) (.int .i64 0) (.int .i64 0) (.int .i64 0)
                        clear hmi5 hmz5
                        go_wp2
                        refine bodyPost_ret (v := .tuple #[insR (parseQ s), .int .i64 (parseE s)]) ?_ rfl ⟨hb4, rfl⟩
                        rw [HQ2.out, HE2.out]
                        simp [results, Tryz.results28, go_sem, insR, Y.out.1, Y.out.2.1, Y.out.2.2.1, Y.out.2.2.2.1, Y.out.2.2.2.2]
                      · have hqa : ((p : Int) + 1 == (n : Int)) = false := by rw [beq_eq_false_iff_ne]; omega
                        have hpr : p < r.length := by have h2 := HLr.out; omega
                        obtain ⟨t, ht⟩ : ∃ t, r[p]? = some t := ⟨r[p], List.getElem?_eq_getElem hpr⟩
                        have hts := (HB.out t (List.mem_cons_of_mem _ (List.mem_of_getElem? ht))).2
                        have hwc : wr.cell? ⟨b, off + (p + 1), none⟩ = some (.string t) := (hb15.cell (p := ⟨b, off + (p + 1), none⟩) hbl).trans (HC.out (p + 1) t (by rw [List.getElem?_cons_succ]; exact ht))
                        have hstep := Lib.hid (show opers (left j jj) ((r.map bts).drop p) q = (operOf 98 (bts t)).bind fun v => opers (left j (jj + 1)) ((r.map bts).drop (p + 1)) (setF 98 v q) by
                          have h1 : p < (r.map bts).length := by rw [List.length_map]; exact hpr
                          have h2 : (r.map bts)[p] = bts t := by
                            rw [List.getElem_map]
                            rw [List.getElem?_eq_getElem hpr] at ht
                            injection ht with ht
                            rw [ht]
                          rw [hleft, List.drop_eq_getElem_cons h1, h2]
                          rfl)
                        have hll2 : p + 1 + (left j (jj + 1)).length = (letters j).length := by have h1 := hll; rw [hleft, List.length_cons] at h1; omega
                        have HLF := Lib.hid hleft
                        clear hleft ht
                        go_wp2_with fail
                        refine (r_Register t _).mono ?_
                        rintro e w5 ⟨rfl, v, rfl, hv⟩

                        cases ho2 : regOf (bts t) with
                        | none =>
                          have hR : readV ((x :: r).map bts) = none := by
                            have h3 : opers (letters j) (r.map bts) ⟨0, 0, 0, 0⟩ = none := by
                              rw [hop.out, hstep.out, show operOf 98 (bts t) = none from ho2]
                              rfl
                            rw [HRV.out, HNM.out, Option.bind_some]
                            simp only
                            rw [h3]
                            split <;> rfl
                          have HQ2 := Lib.hid (show parseQ s = none by rw [HQ.out, hR]; rfl)
                          have HE2 := Lib.hid (show parseE s = 4 by rw [HE.out, hR])
                          clear hR hv ho2 hstep hop
                          obtain ⟨z0, z1, z2, z3, z4⟩ := boxed_cells (op := 0) (a := 0) (b := 0) (c := 0) (i := 0) hmz5
                          have hfz := hmz5.frozen
                          have Y := Lib.hid (boxed_cells (op := 0) (a := 0) (b := 0) (c := 0) (i := 0) (mem_store5 hmz5 rfl (.int .i64 0) (.int .i64 0) (.int .i64 0) (.int .i64 0) (.int .i64 0)))
                          have hb4 := below_store5 hbr5 (Nat.le_refl _) (.int .i64 0) (.int .i64 0) (.int .i64 0) (.int .i64 0) (.int .i64 0)
                          clear hmi5 hmz5
                          go_wp2
                          refine bodyPost_ret (v := .tuple #[insR (parseQ s), .int .i64 (parseE s)]) ?_ rfl ⟨hb4, rfl⟩
                          rw [HQ2.out, HE2.out]
                          simp [results, Tryz.results28, go_sem, insR, Y.out.1, Y.out.2.1, Y.out.2.2.1, Y.out.2.2.2.1, Y.out.2.2.2.2]
                        | some u =>
                          have hvu := hv u ho2
                          subst hvu
                          have hop2 := Lib.hid (show opers (letters j) (r.map bts) ⟨0, 0, 0, 0⟩ = opers (left j (jj + 1)) ((r.map bts).drop (p + 1)) (setF 98 v q) by
                            rw [hop.out, hstep.out, show operOf 98 (bts t) = some v from ho2]
                            rfl)

                          clear hv ho2 hstep hop
                          have hold : World.cell? _ ⟨w1.heap.size, 2, none⟩ = some (.int .i64 q.b) := hmi5.cell 2
                          have hfz := hmi5.frozen 2
                          have hmi7 : Mem _ w1.heap.size 40 (qbox j (setF 98 v q)) := hmi5.set_ 2 (.int .i64 v)
                          have hmz7 := hmz5.far (a := ⟨w1.heap.size, 2, none⟩) (by simp; omega) (.int .i64 v)
                          have hbr7 := hbr5.setCell (p := ⟨w1.heap.size, 2, none⟩) (by simp; omega) (.int .i64 v)
                          have hb17 := hb15.setCell (p := ⟨w1.heap.size, 2, none⟩) (by simp) (.int .i64 v)
                          clear hmi5 hmz5 hbr5 hb15
                          go_wp2
                          go_roundw
                          case rel => exact ⟨jj + 1, p + 1, setF 98 v q, by omega, by omega, by go_num, by go_num, hmi7, hmz7, hop2, hll2, hbr7, hb17, hqi⟩
                          case measure => simp [intOf]; omega
                    · by_cases h116 : l = 116
                      · subst h116
                        clear hlL
                        by_cases hpn : p + 1 = n
                        · have hR : readV ((x :: r).map bts) = none := by
                            rw [HRV.out, HNM.out, Option.bind_some]
                            simp only
                            rw [if_neg (by have h1 := hll; rw [hleft] at h1; rw [List.length_cons] at h1; have h2 := HLr.out; omega)]
                          have HQ2 := Lib.hid (show parseQ s = none by rw [HQ.out, hR]; rfl)
                          have HE2 := Lib.hid (show parseE s = 4 by rw [HE.out, hR])
                          have hqa : ((p : Int) + 1 == (n : Int)) = true := by rw [beq_iff_eq]; omega
                          clear hR hleft hop
                          obtain ⟨z0, z1, z2, z3, z4⟩ := boxed_cells (op := 0) (a := 0) (b := 0) (c := 0) (i := 0) hmz5
                          have hfz := hmz5.frozen
                          have Y := Lib.hid (boxed_cells (op := 0) (a := 0) (b := 0) (c := 0) (i := 0) (mem_store5 hmz5 rfl (.int .i64 0) (.int .i64 0) (.int .i64 0) (.int .i64 0) (.int .i64 0)))
                          have hb4 := below_store5 hbr5 (Nat.le_refl _) (.int .i64 0) (.int .i64 0) (.int .i64 0) (.int .i64 0) (.int .i64 0)
                          clear hmi5 hmz5
                          go_wp2
                          refine bodyPost_ret (v := .tuple #[insR (parseQ s), .int .i64 (parseE s)]) ?_ rfl ⟨hb4, rfl⟩
                          rw [HQ2.out, HE2.out]
                          simp [results, Tryz.results28, go_sem, insR, Y.out.1, Y.out.2.1, Y.out.2.2.1, Y.out.2.2.2.1, Y.out.2.2.2.2]
                        · have hqa : ((p : Int) + 1 == (n : Int)) = false := by rw [beq_eq_false_iff_ne]; omega
                          have hpr : p < r.length := by have h2 := HLr.out; omega
                          obtain ⟨t, ht⟩ : ∃ t, r[p]? = some t := ⟨r[p], List.getElem?_eq_getElem hpr⟩
                          have hts := (HB.out t (List.mem_cons_of_mem _ (List.mem_of_getElem? ht))).2
                          have hwc : wr.cell? ⟨b, off + (p + 1), none⟩ = some (.string t) := (hb15.cell (p := ⟨b, off + (p + 1), none⟩) hbl).trans (HC.out (p + 1) t (by rw [List.getElem?_cons_succ]; exact ht))
                          have hstep := Lib.hid (show opers (left j jj) ((r.map bts).drop p) q = (operOf 99 (bts t)).bind fun v => opers (left j (jj + 1)) ((r.map bts).drop (p + 1)) (setF 99 v q) by
                            have h1 : p < (r.map bts).length := by rw [List.length_map]; exact hpr
                            have h2 : (r.map bts)[p] = bts t := by
                              rw [List.getElem_map]
                              rw [List.getElem?_eq_getElem hpr] at ht
                              injection ht with ht
                              rw [ht]
                            rw [hleft, List.drop_eq_getElem_cons h1, h2]
                            rfl)
                          have hll2 : p + 1 + (left j (jj + 1)).length = (letters j).length := by have h1 := hll; rw [hleft, List.length_cons] at h1; omega
                          have HLF := Lib.hid hleft
                          clear hleft ht
                          go_wp2_with fail
                          refine (r_Register t _).mono ?_
                          rintro e w5 ⟨rfl, v, rfl, hv⟩

                          cases ho2 : regOf (bts t) with
                          | none =>
                            have hR : readV ((x :: r).map bts) = none := by
                              have h3 : opers (letters j) (r.map bts) ⟨0, 0, 0, 0⟩ = none := by
                                rw [hop.out, hstep.out, show operOf 99 (bts t) = none from ho2]
                                rfl
                              rw [HRV.out, HNM.out, Option.bind_some]
                              simp only
                              rw [h3]
                              split <;> rfl
                            have HQ2 := Lib.hid (show parseQ s = none by rw [HQ.out, hR]; rfl)
                            have HE2 := Lib.hid (show parseE s = 4 by rw [HE.out, hR])
                            clear hR hv ho2 hstep hop
                            obtain ⟨z0, z1, z2, z3, z4⟩ := boxed_cells (op := 0) (a := 0) (b := 0) (c := 0) (i := 0) hmz5
                            have hfz := hmz5.frozen
                            have Y := Lib.hid (boxed_cells (op := 0) (a := 0) (b := 0) (c := 0) (i := 0) (mem_store5 hmz5 rfl (.int .i64 0) (.int .i64 0) (.int .i64 0) (.int .i64 0) (.int .i64 0)))
                            have hb4 := below_store5 hbr5 (Nat.le_refl _) (.int .i64 0) (.int .i64 0) (.int .i64 0) (.int .i64 0) (.int .i64 0)
                            clear hmi5 hmz5
                            go_wp2
                            refine bodyPost_ret (v := .tuple #[insR (parseQ s), .int .i64 (parseE s)]) ?_ rfl ⟨hb4, rfl⟩
                            rw [HQ2.out, HE2.out]
                            simp [results, Tryz.results28, go_sem, insR, Y.out.1, Y.out.2.1, Y.out.2.2.1, Y.out.2.2.2.1, Y.out.2.2.2.2]
                          | some u =>
                            have hvu := hv u ho2
                            subst hvu
                            have hop2 := Lib.hid (show opers (letters j) (r.map bts) ⟨0, 0, 0, 0⟩ = opers (left j (jj + 1)) ((r.map bts).drop (p + 1)) (setF 99 v q) by
                              rw [hop.out, hstep.out, show operOf 99 (bts t) = some v from ho2]
                              rfl)

                            clear hv ho2 hstep hop
                            have hold : World.cell? _ ⟨w1.heap.size, 3, none⟩ = some (.int .i64 q.c) := hmi5.cell 3
                            have hfz := hmi5.frozen 3
                            have hmi7 : Mem _ w1.heap.size 40 (qbox j (setF 99 v q)) := hmi5.set_ 3 (.int .i64 v)
                            have hmz7 := hmz5.far (a := ⟨w1.heap.size, 3, none⟩) (by simp; omega) (.int .i64 v)
                            have hbr7 := hbr5.setCell (p := ⟨w1.heap.size, 3, none⟩) (by simp; omega) (.int .i64 v)
                            have hb17 := hb15.setCell (p := ⟨w1.heap.size, 3, none⟩) (by simp) (.int .i64 v)
                            clear hmi5 hmz5 hbr5 hb15
                            go_wp2
                            go_roundw
                            case rel => exact ⟨jj + 1, p + 1, setF 99 v q, by omega, by omega, by go_num, by go_num, hmi7, hmz7, hop2, hll2, hbr7, hb17, hqi⟩
                            case measure => simp [intOf]; omega
                      · have q114 : ((l.toNat : Int) == 114) = false := u8_ne h114
                        have q115 : ((l.toNat : Int) == 115) = false := u8_ne h115
                        have q116 : ((l.toNat : Int) == 116) = false := u8_ne h116
                        rw [conv_other h114 h115 h116] at hleft
                        clear hlL
                        by_cases hpn : p + 1 = n
                        · have hR : readV ((x :: r).map bts) = none := by
                            rw [HRV.out, HNM.out, Option.bind_some]
                            simp only
                            rw [if_neg (by have h1 := hll; rw [hleft] at h1; rw [List.length_cons] at h1; have h2 := HLr.out; omega)]
                          have HQ2 := Lib.hid (show parseQ s = none by rw [HQ.out, hR]; rfl)
                          have HE2 := Lib.hid (show parseE s = 4 by rw [HE.out, hR])
                          have hqa : ((p : Int) + 1 == (n : Int)) = true := by rw [beq_iff_eq]; omega
                          clear hR hleft hop
                          obtain ⟨z0, z1, z2, z3, z4⟩ := boxed_cells (op := 0) (a := 0) (b := 0) (c := 0) (i := 0) hmz5
                          have hfz := hmz5.frozen
                          have Y := Lib.hid (boxed_cells (op := 0) (a := 0) (b := 0) (c := 0) (i := 0) (mem_store5 hmz5 rfl (.int .i64 0) (.int .i64 0) (.int .i64 0) (.int .i64 0) (.int .i64 0)))
                          have hb4 := below_store5 hbr5 (Nat.le_refl _) (.int .i64 0) (.int .i64 0) (.int .i64 0) (.int .i64 0) (.int .i64 0)
                          clear hmi5 hmz5
                          go_wp2
                          refine bodyPost_ret (v := .tuple #[insR (parseQ s), .int .i64 (parseE s)]) ?_ rfl ⟨hb4, rfl⟩
                          rw [HQ2.out, HE2.out]
                          simp [results, Tryz.results28, go_sem, insR, Y.out.1, Y.out.2.1, Y.out.2.2.1, Y.out.2.2.2.1, Y.out.2.2.2.2]
                        · have hqa : ((p : Int) + 1 == (n : Int)) = false := by rw [beq_eq_false_iff_ne]; omega
                          have hpr : p < r.length := by have h2 := HLr.out; omega
                          obtain ⟨t, ht⟩ : ∃ t, r[p]? = some t := ⟨r[p], List.getElem?_eq_getElem hpr⟩
                          have hts := (HB.out t (List.mem_cons_of_mem _ (List.mem_of_getElem? ht))).2
                          have hwc : wr.cell? ⟨b, off + (p + 1), none⟩ = some (.string t) := (hb15.cell (p := ⟨b, off + (p + 1), none⟩) hbl).trans (HC.out (p + 1) t (by rw [List.getElem?_cons_succ]; exact ht))
                          have hstep := Lib.hid (show opers (left j jj) ((r.map bts).drop p) q = (operOf 110 (bts t)).bind fun v => opers (left j (jj + 1)) ((r.map bts).drop (p + 1)) (setF 110 v q) by
                            have h1 : p < (r.map bts).length := by rw [List.length_map]; exact hpr
                            have h2 : (r.map bts)[p] = bts t := by
                              rw [List.getElem_map]
                              rw [List.getElem?_eq_getElem hpr] at ht
                              injection ht with ht
                              rw [ht]
                            rw [hleft, List.drop_eq_getElem_cons h1, h2]
                            rfl)
                          have hll2 : p + 1 + (left j (jj + 1)).length = (letters j).length := by have h1 := hll; rw [hleft, List.length_cons] at h1; omega
                          have HLF := Lib.hid hleft
                          clear hleft ht
                          go_wp2_with fail
                          refine (r_Number t (by omega) _).mono ?_
                          rintro e w5 ⟨hb6, v, rfl, hv⟩
                          have hmi6 := hmi5.below hb6 hmi5.lt
                          have hmz6 := hmz5.below hb6 hmz5.lt
                          have hbr6 := hbr5.trans (hb6.mono hbr5.size)
                          have hb16 := hb15.trans (hb6.mono hb15.size)
                          clear hb6 hmi5 hmz5 hbr5 hb15
                          have hmi5 := hmi6
                          have hmz5 := hmz6
                          have hbr5 := hbr6
                          have hb15 := hb16
                          clear hmi6 hmz6 hbr6 hb16
                          cases ho2 : num (bts t) with
                          | none =>
                            have hR : readV ((x :: r).map bts) = none := by
                              have h3 : opers (letters j) (r.map bts) ⟨0, 0, 0, 0⟩ = none := by
                                rw [hop.out, hstep.out, show operOf 110 (bts t) = none from ho2]
                                rfl
                              rw [HRV.out, HNM.out, Option.bind_some]
                              simp only
                              rw [h3]
                              split <;> rfl
                            have HQ2 := Lib.hid (show parseQ s = none by rw [HQ.out, hR]; rfl)
                            have HE2 := Lib.hid (show parseE s = 4 by rw [HE.out, hR])
                            clear hR hv ho2 hstep hop
                            obtain ⟨z0, z1, z2, z3, z4⟩ := boxed_cells (op := 0) (a := 0) (b := 0) (c := 0) (i := 0) hmz5
                            have hfz := hmz5.frozen
                            have Y := Lib.hid (boxed_cells (op := 0) (a := 0) (b := 0) (c := 0) (i := 0) (mem_store5 hmz5 rfl (.int .i64 0) (.int .i64 0) (.int .i64 0) (.int .i64 0) (.int .i64 0)))
                            have hb4 := below_store5 hbr5 (Nat.le_refl _) (.int .i64 0) (.int .i64 0) (.int .i64 0) (.int .i64 0) (.int .i64 0)
                            clear hmi5 hmz5
                            go_wp2
                            refine bodyPost_ret (v := .tuple #[insR (parseQ s), .int .i64 (parseE s)]) ?_ rfl ⟨hb4, rfl⟩
                            rw [HQ2.out, HE2.out]
                            simp [results, Tryz.results28, go_sem, insR, Y.out.1, Y.out.2.1, Y.out.2.2.1, Y.out.2.2.2.1, Y.out.2.2.2.2]
                          | some u =>
                            have hvu := hv u ho2
                            subst hvu
                            have hop2 := Lib.hid (show opers (letters j) (r.map bts) ⟨0, 0, 0, 0⟩ = opers (left j (jj + 1)) ((r.map bts).drop (p + 1)) (setF 110 v q) by
                              rw [hop.out, hstep.out, show operOf 110 (bts t) = some v from ho2]
                              rfl)
                            have HVI : InInt v := num_bd _ _ ho2
                            clear hv ho2 hstep hop
                            have hold : World.cell? _ ⟨w1.heap.size, 4, none⟩ = some (.int .i64 q.i) := hmi5.cell 4
                            have hfz := hmi5.frozen 4
                            have hmi7 : Mem _ w1.heap.size 40 (qbox j (setF 110 v q)) := hmi5.set_ 4 (.int .i64 v)
                            have hmz7 := hmz5.far (a := ⟨w1.heap.size, 4, none⟩) (by simp; omega) (.int .i64 v)
                            have hbr7 := hbr5.setCell (p := ⟨w1.heap.size, 4, none⟩) (by simp; omega) (.int .i64 v)
                            have hb17 := hb15.setCell (p := ⟨w1.heap.size, 4, none⟩) (by simp) (.int .i64 v)
                            clear hmi5 hmz5 hbr5 hb15
                            go_wp2
                            go_roundw
                            case rel => exact ⟨jj + 1, p + 1, setF 110 v q, by omega, by omega, by go_num, by go_num, hmi7, hmz7, hop2, hll2, hbr7, hb17, HVI⟩
                            case measure => simp [intOf]; omega
              · have hje : jj = (formL j).length := by omega
                rw [hje, left_end, List.length_nil] at hll
                have hopq := Lib.hid (show opers (letters j) (r.map bts) ⟨0, 0, 0, 0⟩ = some q by rw [hop.out, hje, left_end]; rfl)
                have hjl2 : ¬ jj < (formB j).size := hjl
                clear hop hje
                by_cases hpn : p + 1 = n
                · have hR : readV ((x :: r).map bts) = some (j, q) := by
                    rw [HRV.out, HNM.out, Option.bind_some]
                    simp only
                    rw [if_pos (by have h2 := HLr.out; omega), hopq.out]
                    rfl
                  have HR := Lib.hid hR
                  have hqn2 : ((p : Int) + 1 != (n : Int)) = false := by rw [bne_eq_false_iff_eq]; omega
                  clear hR hopq
                  obtain ⟨y0, y1, y2, y3, y4⟩ := qbox_cells hmi5
                  go_wp2_with fail
                  refine (r_check ((j : Nat) : Int) q.a q.b q.c q.i hqi _).mono ?_
                  rintro e w6 ⟨rfl, hb6⟩
                  have hmi6 := hmi5.below hb6 hmi5.lt
                  have hmz6 := hmz5.below hb6 hmz5.lt
                  have hbr6 := hbr5.trans (hb6.mono hbr5.size)
                  clear hb6 hmi5 hmz5 hbr5 hb15 y0 y1 y2 y3 y4
                  obtain ⟨y0, y1, y2, y3, y4⟩ := qbox_cells hmi6
                  obtain ⟨z0, z1, z2, z3, z4⟩ := boxed_cells (op := 0) (a := 0) (b := 0) (c := 0) (i := 0) hmz6
                  have hfz := hmz6.frozen
                  rcases chk_cases ((j : Nat) : Int) q.a q.b q.c q.i with ⟨hc, _, _⟩ | hc | hc
                  · have HQ2 := Lib.hid (show parseQ s = some (j, q) by rw [HQ.out, HR.out, Option.bind_some]; simp only; rw [if_pos hc])
                    have HE2 := Lib.hid ((show parseE s = chk ((j : Nat) : Int) q.a q.b q.c q.i by rw [HE.out, HR.out]).trans hc)
                    rw [hc]
                    clear hc
                    have Y := Lib.hid (qbox_cells (mem_store5 hmz6 rfl (.int .i64 (j : Int)) (.int .i64 q.a) (.int .i64 q.b) (.int .i64 q.c) (.int .i64 q.i)))
                    have hb7 := below_store5 hbr6 (Nat.le_refl _) (.int .i64 (j : Int)) (.int .i64 q.a) (.int .i64 q.b) (.int .i64 q.c) (.int .i64 q.i)
                    clear hmi6 hmz6
                    go_wp2
                    refine bodyPost_ret (v := .tuple #[insR (parseQ s), .int .i64 (parseE s)]) ?_ rfl ⟨hb7, rfl⟩
                    rw [HQ2.out, HE2.out]
                    simp [results, Tryz.results28, go_sem, insR, Y.out.1, Y.out.2.1, Y.out.2.2.1, Y.out.2.2.2.1, Y.out.2.2.2.2]
                  all_goals
                    have HQ2 := Lib.hid (show parseQ s = none by rw [HQ.out, HR.out, Option.bind_some]; simp only; rw [if_neg (by omega)])
                    have HE2 := Lib.hid ((show parseE s = chk ((j : Nat) : Int) q.a q.b q.c q.i by rw [HE.out, HR.out]).trans hc)
                    rw [hc]
                    clear hc
                    have Y := Lib.hid (boxed_cells (op := 0) (a := 0) (b := 0) (c := 0) (i := 0) (mem_store5 hmz6 rfl (.int .i64 0) (.int .i64 0) (.int .i64 0) (.int .i64 0) (.int .i64 0)))
                    have hb7 := below_store5 hbr6 (Nat.le_refl _) (.int .i64 0) (.int .i64 0) (.int .i64 0) (.int .i64 0) (.int .i64 0)
                    clear hmi6 hmz6
                    go_wp2
                    refine bodyPost_ret (v := .tuple #[insR (parseQ s), .int .i64 (parseE s)]) ?_ rfl ⟨hb7, rfl⟩
                    rw [HQ2.out, HE2.out]
                    simp [results, Tryz.results28, go_sem, insR, Y.out.1, Y.out.2.1, Y.out.2.2.1, Y.out.2.2.2.1, Y.out.2.2.2.2]
                · have hR : readV ((x :: r).map bts) = none := by
                    rw [HRV.out, HNM.out, Option.bind_some]
                    simp only
                    rw [if_neg (by have h2 := HLr.out; omega)]
                  have HQ2 := Lib.hid (show parseQ s = none by rw [HQ.out, hR]; rfl)
                  have HE2 := Lib.hid (show parseE s = 4 by rw [HE.out, hR])
                  have hqn2 : ((p : Int) + 1 != (n : Int)) = true := by rw [bne_iff_ne]; omega
                  clear hR hopq
                  obtain ⟨z0, z1, z2, z3, z4⟩ := boxed_cells (op := 0) (a := 0) (b := 0) (c := 0) (i := 0) hmz5
                  have hfz := hmz5.frozen
                  have Y := Lib.hid (boxed_cells (op := 0) (a := 0) (b := 0) (c := 0) (i := 0) (mem_store5 hmz5 rfl (.int .i64 0) (.int .i64 0) (.int .i64 0) (.int .i64 0) (.int .i64 0)))
                  have hb4 := below_store5 hbr5 (Nat.le_refl _) (.int .i64 0) (.int .i64 0) (.int .i64 0) (.int .i64 0) (.int .i64 0)
                  clear hmi5 hmz5
                  go_wp2
                  refine bodyPost_ret (v := .tuple #[insR (parseQ s), .int .i64 (parseE s)]) ?_ rfl ⟨hb4, rfl⟩
                  rw [HQ2.out, HE2.out]
                  simp [results, Tryz.results28, go_sem, insR, Y.out.1, Y.out.2.1, Y.out.2.2.1, Y.out.2.2.2.1, Y.out.2.2.2.2]
        | some f =>
          have hf22 : f < 22 := by
            unfold fnOf at hf
            rw [List.findIdx?_eq_some_iff_getElem] at hf
            exact hf.1
          have HI0 : InInt (f : Int) := ⟨by omega, by omega⟩
          have HNM := Lib.hid (show named (bts x) = some (3, (f : Int)) by unfold named; rw [hf])
          have hold4 : w2.cell? ⟨w1.heap.size, 4, none⟩ = some (.int .i64 0) := hmi2.cell 4
          have hfz0 := hmi2.frozen
          have hmiW : Mem ((w2.setCell ⟨w1.heap.size, 0, none⟩ (.int .i64 3)).setCell ⟨w1.heap.size, 4, none⟩ (.int .i64 (f : Int))) w1.heap.size 40 (qbox 3 ⟨0, 0, 0, (f : Int)⟩) := (hmi2.set_ 0 (.int .i64 3)).set_ 4 (.int .i64 (f : Int))
          have hmzW := (hmz2.far (a := ⟨w1.heap.size, 0, none⟩) (by simp; omega) (.int .i64 3)).far (a := ⟨w1.heap.size, 4, none⟩) (by simp; omega) (.int .i64 (f : Int))
          have hbrW := (hbr2.setCell (p := ⟨w1.heap.size, 0, none⟩) (by simp; omega) (.int .i64 3)).setCell (p := ⟨w1.heap.size, 4, none⟩) (by simp; omega) (.int .i64 (f : Int))
          have hb1W := (hb12.setCell (p := ⟨w1.heap.size, 0, none⟩) (by simp) (.int .i64 3)).setCell (p := ⟨w1.heap.size, 4, none⟩) (by simp) (.int .i64 (f : Int))
          clear hmi2 hmz2 hbr2 hb12 hf
          go_wp2_with fail
          refine (r_form 3 (by omega) _).mono ?_
          rintro e w3 ⟨rfl, hb3⟩
          have hmi3 := hmiW.below hb3 hmiW.lt
          have hmz3 := hmzW.below hb3 hmzW.lt
          have hbr3 := hbrW.trans (hb3.mono hbrW.size)
          have hb13 := hb1W.trans (hb3.mono hb1W.size)
          have hF4 := form_le4 3
          have hF4B : (formB 3).size ≤ 4 := hF4
          clear hb3 hmiW hmzW hbrW hb1W
          go_wp2
          go_loopw [10, 11] (fun av jv wr => ∃ (jj p : Nat) (q : Fields), jj ≤ (formL 3).length ∧ p + 1 ≤ n ∧ av = .int .i64 ((p + 1 : Nat) : Int) ∧ jv = .int .i64 jj ∧ Mem wr w1.heap.size 40 (qbox 3 q) ∧ Mem wr w.heap.size 40 ZERO ∧ Hid (opers (letters 3) (r.map bts) ⟨0, 0, 0, (f : Int)⟩ = opers (left 3 jj) ((r.map bts).drop p) q) ∧ p + (left 3 jj).length = (letters 3).length ∧ Below w.heap.size w wr ∧ Below w1.heap.size w1 wr ∧ InInt q.i) (fun _ jv _ => (formL 3).length - (intOf jv).toNat)
          case atStart => exact ⟨0, 0, ⟨0, 0, 0, (f : Int)⟩, by omega, by omega, rfl, rfl, hmi3, hmz3, (by rw [left_start 3 (by omega)]; exact rfl), by rw [left_start 3 (by omega)]; omega, hbr3, hb13, HI0⟩
          case round =>
            obtain ⟨jj, p, q, hj, hp, rfl, rfl, hmi5, hmz5, hop, hll, hbr5, hb15, hqi⟩ := hrel
            clear hmi3 hmz3 hbr3 hb13
            by_cases hjl : jj < (formL 3).length
            · have hjB : jj < (formB 3).size := hjl
              obtain ⟨l, hl⟩ : ∃ l, (formB 3)[jj]'hjB = l := ⟨_, rfl⟩
              have hlL : (formL 3)[jj] = l := hl
              by_cases h102 : l = 102
              · subst h102
                have hleft := left_f 3 jj hjl hlL
                have hop2 := Lib.hid (show opers (letters 3) (r.map bts) ⟨0, 0, 0, (f : Int)⟩ = opers (left 3 (jj + 1)) ((r.map bts).drop p) q by rw [hop.out, hleft])
                rw [hleft] at hll
                clear hop hleft hlL
                go_wp2
                go_roundw
                case rel => exact ⟨jj + 1, p, q, by omega, by omega, rfl, by go_num, hmi5, hmz5, hop2, hll, hbr5, hb15, hqi⟩
                case measure => simp [intOf]; omega
              · have hleft := left_l' 3 jj hjl l hlL h102
                have q102 : ((l.toNat : Int) == 102) = false := u8_ne h102
                by_cases h114 : l = 114
                · subst h114
                  clear hlL
                  by_cases hpn : p + 1 = n
                  · have hR : readV ((x :: r).map bts) = none := by
                      rw [HRV.out, HNM.out, Option.bind_some]
                      simp only
                      rw [if_neg (by have h1 := hll; rw [hleft] at h1; rw [List.length_cons] at h1; have h2 := HLr.out; omega)]
                    have HQ2 := Lib.hid (show parseQ s = none by rw [HQ.out, hR]; rfl)
                    have HE2 := Lib.hid (show parseE s = 4 by rw [HE.out, hR])
                    have hqa : ((p : Int) + 1 == (n : Int)) = true := by rw [beq_iff_eq]; omega
                    clear hR hleft hop
                    obtain ⟨z0, z1, z2, z3, z4⟩ := boxed_cells (op := 0) (a := 0) (b := 0) (c := 0) (i := 0) hmz5
                    have hfz := hmz5.frozen
                    have Y := Lib.hid (boxed_cells (op := 0) (a := 0) (b := 0) (c := 0) (i := 0) (mem_store5 hmz5 rfl (.int .i64 0) (.int .i64 0) (.int .i64 0) (.int .i64 0) (.int .i64 0)))
                    have hb4 := below_store5 hbr5 (Nat.le_refl _) (.int .i64 0) (.int .i64 0) (.int .i64 0) (.int .i64 0) (.int .i64 0)
                    clear hmi5 hmz5
                    go_wp2
                    refine bodyPost_ret (v := .tuple #[insR (parseQ s), .int .i64 (parseE s)]) ?_ rfl ⟨hb4, rfl⟩
                    rw [HQ2.out, HE2.out]
                    simp [results, Tryz.results28, go_sem, insR, Y.out.1, Y.out.2.1, Y.out.2.2.1, Y.out.2.2.2.1, Y.out.2.2.2.2]
                  · have hqa : ((p : Int) + 1 == (n : Int)) = false := by rw [beq_eq_false_iff_ne]; omega
                    have hpr : p < r.length := by have h2 := HLr.out; omega
                    obtain ⟨t, ht⟩ : ∃ t, r[p]? = some t := ⟨r[p], List.getElem?_eq_getElem hpr⟩
                    have hts := (HB.out t (List.mem_cons_of_mem _ (List.mem_of_getElem? ht))).2
                    have hwc : wr.cell? ⟨b, off + (p + 1), none⟩ = some (.string t) := (hb15.cell (p := ⟨b, off + (p + 1), none⟩) hbl).trans (HC.out (p + 1) t (by rw [List.getElem?_cons_succ]; exact ht))
                    have hstep := Lib.hid (show opers (left 3 jj) ((r.map bts).drop p) q = (operOf 97 (bts t)).bind fun v => opers (left 3 (jj + 1)) ((r.map bts).drop (p + 1)) (setF 97 v q) by
                      have h1 : p < (r.map bts).length := by rw [List.length_map]; exact hpr
                      have h2 : (r.map bts)[p] = bts t := by
                        rw [List.getElem_map]
                        rw [List.getElem?_eq_getElem hpr] at ht
                        injection ht with ht
                        rw [ht]
                      rw [hleft, List.drop_eq_getElem_cons h1, h2]
                      rfl)
                    have hll2 : p + 1 + (left 3 (jj + 1)).length = (letters 3).length := by have h1 := hll; rw [hleft, List.length_cons] at h1; omega
                    have HLF := Lib.hid hleft
                    clear hleft ht
                    go_wp2_with fail
                    refine (r_Register t _).mono ?_
                    rintro e w5 ⟨rfl, v, rfl, hv⟩

                    cases ho2 : regOf (bts t) with
                    | none =>
                      have hR : readV ((x :: r).map bts) = none := by
                        have h3 : opers (letters 3) (r.map bts) ⟨0, 0, 0, (f : Int)⟩ = none := by
                          rw [hop.out, hstep.out, show operOf 97 (bts t) = none from ho2]
                          rfl
                        rw [HRV.out, HNM.out, Option.bind_some]
                        simp only
                        rw [h3]
                        split <;> rfl
                      have HQ2 := Lib.hid (show parseQ s = none by rw [HQ.out, hR]; rfl)
                      have HE2 := Lib.hid (show parseE s = 4 by rw [HE.out, hR])
                      clear hR hv ho2 hstep hop
                      obtain ⟨z0, z1, z2, z3, z4⟩ := boxed_cells (op := 0) (a := 0) (b := 0) (c := 0) (i := 0) hmz5
                      have hfz := hmz5.frozen
                      have Y := Lib.hid (boxed_cells (op := 0) (a := 0) (b := 0) (c := 0) (i := 0) (mem_store5 hmz5 rfl (.int .i64 0) (.int .i64 0) (.int .i64 0) (.int .i64 0) (.int .i64 0)))
                      have hb4 := below_store5 hbr5 (Nat.le_refl _) (.int .i64 0) (.int .i64 0) (.int .i64 0) (.int .i64 0) (.int .i64 0)
                      clear hmi5 hmz5
                      go_wp2
                      refine bodyPost_ret (v := .tuple #[insR (parseQ s), .int .i64 (parseE s)]) ?_ rfl ⟨hb4, rfl⟩
                      rw [HQ2.out, HE2.out]
                      simp [results, Tryz.results28, go_sem, insR, Y.out.1, Y.out.2.1, Y.out.2.2.1, Y.out.2.2.2.1, Y.out.2.2.2.2]
                    | some u =>
                      have hvu := hv u ho2
                      subst hvu
                      have hop2 := Lib.hid (show opers (letters 3) (r.map bts) ⟨0, 0, 0, (f : Int)⟩ = opers (left 3 (jj + 1)) ((r.map bts).drop (p + 1)) (setF 97 v q) by
                        rw [hop.out, hstep.out, show operOf 97 (bts t) = some v from ho2]
                        rfl)

                      clear hv ho2 hstep hop
                      have hold : World.cell? _ ⟨w1.heap.size, 1, none⟩ = some (.int .i64 q.a) := hmi5.cell 1
                      have hfz := hmi5.frozen 1
                      have hmi7 : Mem _ w1.heap.size 40 (qbox 3 (setF 97 v q)) := hmi5.set_ 1 (.int .i64 v)
                      have hmz7 := hmz5.far (a := ⟨w1.heap.size, 1, none⟩) (by simp; omega) (.int .i64 v)
                      have hbr7 := hbr5.setCell (p := ⟨w1.heap.size, 1, none⟩) (by simp; omega) (.int .i64 v)
                      have hb17 := hb15.setCell (p := ⟨w1.heap.size, 1, none⟩) (by simp) (.int .i64 v)
                      clear hmi5 hmz5 hbr5 hb15
                      go_wp2
                      go_roundw
                      case rel => exact ⟨jj + 1, p + 1, setF 97 v q, by omega, by omega, by go_num, by go_num, hmi7, hmz7, hop2, hll2, hbr7, hb17, hqi⟩
                      case measure => simp [intOf]; omega
                · by_cases h115 : l = 115
                  · subst h115
                    clear hlL
                    by_cases hpn : p + 1 = n
                    · have hR : readV ((x :: r).map bts) = none := by
                        rw [HRV.out, HNM.out, Option.bind_some]
                        simp only
                        rw [if_neg (by have h1 := hll; rw [hleft] at h1; rw [List.length_cons] at h1; have h2 := HLr.out; omega)]
                      have HQ2 := Lib.hid (show parseQ s = none by rw [HQ.out, hR]; rfl)
                      have HE2 := Lib.hid (show parseE s = 4 by rw [HE.out, hR])
                      have hqa : ((p : Int) + 1 == (n : Int)) = true := by rw [beq_iff_eq]; omega
                      clear hR hleft hop
                      obtain ⟨z0, z1, z2, z3, z4⟩ := boxed_cells (op := 0) (a := 0) (b := 0) (c := 0) (i := 0) hmz5
                      have hfz := hmz5.frozen
                      have Y := Lib.hid (boxed_cells (op := 0) (a := 0) (b := 0) (c := 0) (i := 0) (mem_store5 hmz5 rfl (.int .i64 0) (.int .i64 0) (.int .i64 0) (.int .i64 0) (.int .i64 0)))
                      have hb4 := below_store5 hbr5 (Nat.le_refl _) (.int .i64 0) (.int .i64 0) (.int .i64 0) (.int .i64 0) (.int .i64 0)
                      clear hmi5 hmz5
                      go_wp2
                      refine bodyPost_ret (v := .tuple #[insR (parseQ s), .int .i64 (parseE s)]) ?_ rfl ⟨hb4, rfl⟩
                      rw [HQ2.out, HE2.out]
                      simp [results, Tryz.results28, go_sem, insR, Y.out.1, Y.out.2.1, Y.out.2.2.1, Y.out.2.2.2.1, Y.out.2.2.2.2]
                    · have hqa : ((p : Int) + 1 == (n : Int)) = false := by rw [beq_eq_false_iff_ne]; omega
                      have hpr : p < r.length := by have h2 := HLr.out; omega
                      obtain ⟨t, ht⟩ : ∃ t, r[p]? = some t := ⟨r[p], List.getElem?_eq_getElem hpr⟩
                      have hts := (HB.out t (List.mem_cons_of_mem _ (List.mem_of_getElem? ht))).2
                      have hwc : wr.cell? ⟨b, off + (p + 1), none⟩ = some (.string t) := (hb15.cell (p := ⟨b, off + (p + 1), none⟩) hbl).trans (HC.out (p + 1) t (by rw [List.getElem?_cons_succ]; exact ht))
                      have hstep := Lib.hid (show opers (left 3 jj) ((r.map bts).drop p) q = (operOf 98 (bts t)).bind fun v => opers (left 3 (jj + 1)) ((r.map bts).drop (p + 1)) (setF 98 v q) by
                        have h1 : p < (r.map bts).length := by rw [List.length_map]; exact hpr
                        have h2 : (r.map bts)[p] = bts t := by
                          rw [List.getElem_map]
                          rw [List.getElem?_eq_getElem hpr] at ht
                          injection ht with ht
                          rw [ht]
                        rw [hleft, List.drop_eq_getElem_cons h1, h2]
                        rfl)
                      have hll2 : p + 1 + (left 3 (jj + 1)).length = (letters 3).length := by have h1 := hll; rw [hleft, List.length_cons] at h1; omega
                      have HLF := Lib.hid hleft
                      clear hleft ht
                      go_wp2_with fail
                      refine (r_Register t _).mono ?_
                      rintro e w5 ⟨rfl, v, rfl, hv⟩

                      cases ho2 : regOf (bts t) with
                      | none =>
                        have hR : readV ((x :: r).map bts) = none := by
                          have h3 : opers (letters 3) (r.map bts) ⟨0, 0, 0, (f : Int)⟩ = none := by
                            rw [hop.out, hstep.out, show operOf 98 (bts t) = none from ho2]
                            rfl
                          rw [HRV.out, HNM.out, Option.bind_some]
                          simp only
                          rw [h3]
                          split <;> rfl
                        have HQ2 := Lib.hid (show parseQ s = none by rw [HQ.out, hR]; rfl)
                        have HE2 := Lib.hid (show parseE s = 4 by rw [HE.out, hR])
                        clear hR hv ho2 hstep hop
                        obtain ⟨z0, z1, z2, z3, z4⟩ := boxed_cells (op := 0) (a := 0) (b := 0) (c := 0) (i := 0) hmz5
                        have hfz := hmz5.frozen
                        have Y := Lib.hid (boxed_cells (op := 0) (a := 0) (b := 0) (c := 0) (i := 0) (mem_store5 hmz5 rfl (.int .i64 0) (.int .i64 0) (.int .i64 0) (.int .i64 0) (.int .i64 0)))
                        have hb4 := below_store5 hbr5 (Nat.le_refl _) (.int .i64 0) (.int .i64 0) (.int .i64 0) (.int .i64 0) (.int .i64 0)
                        clear hmi5 hmz5
                        go_wp2
                        refine bodyPost_ret (v := .tuple #[insR (parseQ s), .int .i64 (parseE s)]) ?_ rfl ⟨hb4, rfl⟩
                        rw [HQ2.out, HE2.out]
                        simp [results, Tryz.results28, go_sem, insR, Y.out.1, Y.out.2.1, Y.out.2.2.1, Y.out.2.2.2.1, Y.out.2.2.2.2]
                      | some u =>
                        have hvu := hv u ho2
                        subst hvu
                        have hop2 := Lib.hid (show opers (letters 3) (r.map bts) ⟨0, 0, 0, (f : Int)⟩ = opers (left 3 (jj + 1)) ((r.map bts).drop (p + 1)) (setF 98 v q) by
                          rw [hop.out, hstep.out, show operOf 98 (bts t) = some v from ho2]
                          rfl)

                        clear hv ho2 hstep hop
                        have hold : World.cell? _ ⟨w1.heap.size, 2, none⟩ = some (.int .i64 q.b) := hmi5.cell 2
                        have hfz := hmi5.frozen 2
                        have hmi7 : Mem _ w1.heap.size 40 (qbox 3 (setF 98 v q)) := hmi5.set_ 2 (.int .i64 v)
                        have hmz7 := hmz5.far (a := ⟨w1.heap.size, 2, none⟩) (by simp; omega) (.int .i64 v)
                        have hbr7 := hbr5.setCell (p := ⟨w1.heap.size, 2, none⟩) (by simp; omega) (.int .i64 v)
                        have hb17 := hb15.setCell (p := ⟨w1.heap.size, 2, none⟩) (by simp) (.int .i64 v)
                        clear hmi5 hmz5 hbr5 hb15
                        go_wp2
                        go_roundw
                        case rel => exact ⟨jj + 1, p + 1, setF 98 v q, by omega, by omega, by go_num, by go_num, hmi7, hmz7, hop2, hll2, hbr7, hb17, hqi⟩
                        case measure => simp [intOf]; omega
                  · by_cases h116 : l = 116
                    · subst h116
                      clear hlL
                      by_cases hpn : p + 1 = n
                      · have hR : readV ((x :: r).map bts) = none := by
                          rw [HRV.out, HNM.out, Option.bind_some]
                          simp only
                          rw [if_neg (by have h1 := hll; rw [hleft] at h1; rw [List.length_cons] at h1; have h2 := HLr.out; omega)]
                        have HQ2 := Lib.hid (show parseQ s = none by rw [HQ.out, hR]; rfl)
                        have HE2 := Lib.hid (show parseE s = 4 by rw [HE.out, hR])
                        have hqa : ((p : Int) + 1 == (n : Int)) = true := by rw [beq_iff_eq]; omega
                        clear hR hleft hop
                        obtain ⟨z0, z1, z2, z3, z4⟩ := boxed_cells (op := 0) (a := 0) (b := 0) (c := 0) (i := 0) hmz5
                        have hfz := hmz5.frozen
                        have Y := Lib.hid (boxed_cells (op := 0) (a := 0) (b := 0) (c := 0) (i := 0) (mem_store5 hmz5 rfl (.int .i64 0) (.int .i64 0) (.int .i64 0) (.int .i64 0) (.int .i64 0)))
                        have hb4 := below_store5 hbr5 (Nat.le_refl _) (.int .i64 0) (.int .i64 0) (.int .i64 0) (.int .i64 0) (.int .i64 0)
                        clear hmi5 hmz5
                        go_wp2
                        refine bodyPost_ret (v := .tuple #[insR (parseQ s), .int .i64 (parseE s)]) ?_ rfl ⟨hb4, rfl⟩
                        rw [HQ2.out, HE2.out]
                        simp [results, Tryz.results28, go_sem, insR, Y.out.1, Y.out.2.1, Y.out.2.2.1, Y.out.2.2.2.1, Y.out.2.2.2.2]
                      · have hqa : ((p : Int) + 1 == (n : Int)) = false := by rw [beq_eq_false_iff_ne]; omega
                        have hpr : p < r.length := by have h2 := HLr.out; omega
                        obtain ⟨t, ht⟩ : ∃ t, r[p]? = some t := ⟨r[p], List.getElem?_eq_getElem hpr⟩
                        have hts := (HB.out t (List.mem_cons_of_mem _ (List.mem_of_getElem? ht))).2
                        have hwc : wr.cell? ⟨b, off + (p + 1), none⟩ = some (.string t) := (hb15.cell (p := ⟨b, off + (p + 1), none⟩) hbl).trans (HC.out (p + 1) t (by rw [List.getElem?_cons_succ]; exact ht))
                        have hstep := Lib.hid (show opers (left 3 jj) ((r.map bts).drop p) q = (operOf 99 (bts t)).bind fun v => opers (left 3 (jj + 1)) ((r.map bts).drop (p + 1)) (setF 99 v q) by
                          have h1 : p < (r.map bts).length := by rw [List.length_map]; exact hpr
                          have h2 : (r.map bts)[p] = bts t := by
                            rw [List.getElem_map]
                            rw [List.getElem?_eq_getElem hpr] at ht
                            injection ht with ht
                            rw [ht]
                          rw [hleft, List.drop_eq_getElem_cons h1, h2]
                          rfl)
                        have hll2 : p + 1 + (left 3 (jj + 1)).length = (letters 3).length := by have h1 := hll; rw [hleft, List.length_cons] at h1; omega
                        have HLF := Lib.hid hleft
                        clear hleft ht
                        go_wp2_with fail
                        refine (r_Register t _).mono ?_
                        rintro e w5 ⟨rfl, v, rfl, hv⟩

                        cases ho2 : regOf (bts t) with
                        | none =>
                          have hR : readV ((x :: r).map bts) = none := by
                            have h3 : opers (letters 3) (r.map bts) ⟨0, 0, 0, (f : Int)⟩ = none := by
                              rw [hop.out, hstep.out, show operOf 99 (bts t) = none from ho2]
                              rfl
                            rw [HRV.out, HNM.out, Option.bind_some]
                            simp only
                            rw [h3]
                            split <;> rfl
                          have HQ2 := Lib.hid (show parseQ s = none by rw [HQ.out, hR]; rfl)
                          have HE2 := Lib.hid (show parseE s = 4 by rw [HE.out, hR])
                          clear hR hv ho2 hstep hop
                          obtain ⟨z0, z1, z2, z3, z4⟩ := boxed_cells (op := 0) (a := 0) (b := 0) (c := 0) (i := 0) hmz5
                          have hfz := hmz5.frozen
                          have Y := Lib.hid (boxed_cells (op := 0) (a := 0) (b := 0) (c := 0) (i := 0) (mem_store5 hmz5 rfl (.int .i64 0) (.int .i64 0) (.int .i64 0) (.int .i64 0) (.int .i64 0)))
                          have hb4 := below_store5 hbr5 (Nat.le_refl _) (.int .i64 0) (.int .i64 0) (.int .i64 0) (.int .i64 0) (.int .i64 0)
                          clear hmi5 hmz5
                          go_wp2
                          refine bodyPost_ret (v := .tuple #[insR (parseQ s), .int .i64 (parseE s)]) ?_ rfl ⟨hb4, rfl⟩
                          rw [HQ2.out, HE2.out]
                          simp [results, Tryz.results28, go_sem, insR, Y.out.1, Y.out.2.1, Y.out.2.2.1, Y.out.2.2.2.1, Y.out.2.2.2.2]
                        | some u =>
                          have hvu := hv u ho2
                          subst hvu
                          have hop2 := Lib.hid (show opers (letters 3) (r.map bts) ⟨0, 0, 0, (f : Int)⟩ = opers (left 3 (jj + 1)) ((r.map bts).drop (p + 1)) (setF 99 v q) by
                            rw [hop.out, hstep.out, show operOf 99 (bts t) = some v from ho2]
                            rfl)

                          clear hv ho2 hstep hop
                          have hold : World.cell? _ ⟨w1.heap.size, 3, none⟩ = some (.int .i64 q.c) := hmi5.cell 3
                          have hfz := hmi5.frozen 3
                          have hmi7 : Mem _ w1.heap.size 40 (qbox 3 (setF 99 v q)) := hmi5.set_ 3 (.int .i64 v)
                          have hmz7 := hmz5.far (a := ⟨w1.heap.size, 3, none⟩) (by simp; omega) (.int .i64 v)
                          have hbr7 := hbr5.setCell (p := ⟨w1.heap.size, 3, none⟩) (by simp; omega) (.int .i64 v)
                          have hb17 := hb15.setCell (p := ⟨w1.heap.size, 3, none⟩) (by simp) (.int .i64 v)
                          clear hmi5 hmz5 hbr5 hb15
                          go_wp2
                          go_roundw
                          case rel => exact ⟨jj + 1, p + 1, setF 99 v q, by omega, by omega, by go_num, by go_num, hmi7, hmz7, hop2, hll2, hbr7, hb17, hqi⟩
                          case measure => simp [intOf]; omega
                    · have q114 : ((l.toNat : Int) == 114) = false := u8_ne h114
                      have q115 : ((l.toNat : Int) == 115) = false := u8_ne h115
                      have q116 : ((l.toNat : Int) == 116) = false := u8_ne h116
                      rw [conv_other h114 h115 h116] at hleft
                      clear hlL
                      by_cases hpn : p + 1 = n
                      · have hR : readV ((x :: r).map bts) = none := by
                          rw [HRV.out, HNM.out, Option.bind_some]
                          simp only
                          rw [if_neg (by have h1 := hll; rw [hleft] at h1; rw [List.length_cons] at h1; have h2 := HLr.out; omega)]
                        have HQ2 := Lib.hid (show parseQ s = none by rw [HQ.out, hR]; rfl)
                        have HE2 := Lib.hid (show parseE s = 4 by rw [HE.out, hR])
                        have hqa : ((p : Int) + 1 == (n : Int)) = true := by rw [beq_iff_eq]; omega
                        clear hR hleft hop
                        obtain ⟨z0, z1, z2, z3, z4⟩ := boxed_cells (op := 0) (a := 0) (b := 0) (c := 0) (i := 0) hmz5
                        have hfz := hmz5.frozen
                        have Y := Lib.hid (boxed_cells (op := 0) (a := 0) (b := 0) (c := 0) (i := 0) (mem_store5 hmz5 rfl (.int .i64 0) (.int .i64 0) (.int .i64 0) (.int .i64 0) (.int .i64 0)))
                        have hb4 := below_store5 hbr5 (Nat.le_refl _) (.int .i64 0) (.int .i64 0) (.int .i64 0) (.int .i64 0) (.int .i64 0)
                        clear hmi5 hmz5
                        go_wp2
                        refine bodyPost_ret (v := .tuple #[insR (parseQ s), .int .i64 (parseE s)]) ?_ rfl ⟨hb4, rfl⟩
                        rw [HQ2.out, HE2.out]
                        simp [results, Tryz.results28, go_sem, insR, Y.out.1, Y.out.2.1, Y.out.2.2.1, Y.out.2.2.2.1, Y.out.2.2.2.2]
                      · have hqa : ((p : Int) + 1 == (n : Int)) = false := by rw [beq_eq_false_iff_ne]; omega
                        have hpr : p < r.length := by have h2 := HLr.out; omega
                        obtain ⟨t, ht⟩ : ∃ t, r[p]? = some t := ⟨r[p], List.getElem?_eq_getElem hpr⟩
                        have hts := (HB.out t (List.mem_cons_of_mem _ (List.mem_of_getElem? ht))).2
                        have hwc : wr.cell? ⟨b, off + (p + 1), none⟩ = some (.string t) := (hb15.cell (p := ⟨b, off + (p + 1), none⟩) hbl).trans (HC.out (p + 1) t (by rw [List.getElem?_cons_succ]; exact ht))
                        have hstep := Lib.hid (show opers (left 3 jj) ((r.map bts).drop p) q = (operOf 110 (bts t)).bind fun v => opers (left 3 (jj + 1)) ((r.map bts).drop (p + 1)) (setF 110 v q) by
                          have h1 : p < (r.map bts).length := by rw [List.length_map]; exact hpr
                          have h2 : (r.map bts)[p] = bts t := by
                            rw [List.getElem_map]
                            rw [List.getElem?_eq_getElem hpr] at ht
                            injection ht with ht
                            rw [ht]
                          rw [hleft, List.drop_eq_getElem_cons h1, h2]
                          rfl)
                        have hll2 : p + 1 + (left 3 (jj + 1)).length = (letters 3).length := by have h1 := hll; rw [hleft, List.length_cons] at h1; omega
                        have HLF := Lib.hid hleft
                        clear hleft ht
                        go_wp2_with fail
                        refine (r_Number t (by omega) _).mono ?_
                        rintro e w5 ⟨hb6, v, rfl, hv⟩
                        have hmi6 := hmi5.below hb6 hmi5.lt
                        have hmz6 := hmz5.below hb6 hmz5.lt
                        have hbr6 := hbr5.trans (hb6.mono hbr5.size)
                        have hb16 := hb15.trans (hb6.mono hb15.size)
                        clear hb6 hmi5 hmz5 hbr5 hb15
                        have hmi5 := hmi6
                        have hmz5 := hmz6
                        have hbr5 := hbr6
                        have hb15 := hb16
                        clear hmi6 hmz6 hbr6 hb16
                        cases ho2 : num (bts t) with
                        | none =>
                          have hR : readV ((x :: r).map bts) = none := by
                            have h3 : opers (letters 3) (r.map bts) ⟨0, 0, 0, (f : Int)⟩ = none := by
                              rw [hop.out, hstep.out, show operOf 110 (bts t) = none from ho2]
                              rfl
                            rw [HRV.out, HNM.out, Option.bind_some]
                            simp only
                            rw [h3]
                            split <;> rfl
                          have HQ2 := Lib.hid (show parseQ s = none by rw [HQ.out, hR]; rfl)
                          have HE2 := Lib.hid (show parseE s = 4 by rw [HE.out, hR])
                          clear hR hv ho2 hstep hop
                          obtain ⟨z0, z1, z2, z3, z4⟩ := boxed_cells (op := 0) (a := 0) (b := 0) (c := 0) (i := 0) hmz5
                          have hfz := hmz5.frozen
                          have Y := Lib.hid (boxed_cells (op := 0) (a := 0) (b := 0) (c := 0) (i := 0) (mem_store5 hmz5 rfl (.int .i64 0) (.int .i64 0) (.int .i64 0) (.int .i64 0) (.int .i64 0)))
                          have hb4 := below_store5 hbr5 (Nat.le_refl _) (.int .i64 0) (.int .i64 0) (.int .i64 0) (.int .i64 0) (.int .i64 0)
                          clear hmi5 hmz5
                          go_wp2
                          refine bodyPost_ret (v := .tuple #[insR (parseQ s), .int .i64 (parseE s)]) ?_ rfl ⟨hb4, rfl⟩
                          rw [HQ2.out, HE2.out]
                          simp [results, Tryz.results28, go_sem, insR, Y.out.1, Y.out.2.1, Y.out.2.2.1, Y.out.2.2.2.1, Y.out.2.2.2.2]
                        | some u =>
                          have hvu := hv u ho2
                          subst hvu
                          have hop2 := Lib.hid (show opers (letters 3) (r.map bts) ⟨0, 0, 0, (f : Int)⟩ = opers (left 3 (jj + 1)) ((r.map bts).drop (p + 1)) (setF 110 v q) by
                            rw [hop.out, hstep.out, show operOf 110 (bts t) = some v from ho2]
                            rfl)
                          have HVI : InInt v := num_bd _ _ ho2
                          clear hv ho2 hstep hop
                          have hold : World.cell? _ ⟨w1.heap.size, 4, none⟩ = some (.int .i64 q.i) := hmi5.cell 4
                          have hfz := hmi5.frozen 4
                          have hmi7 : Mem _ w1.heap.size 40 (qbox 3 (setF 110 v q)) := hmi5.set_ 4 (.int .i64 v)
                          have hmz7 := hmz5.far (a := ⟨w1.heap.size, 4, none⟩) (by simp; omega) (.int .i64 v)
                          have hbr7 := hbr5.setCell (p := ⟨w1.heap.size, 4, none⟩) (by simp; omega) (.int .i64 v)
                          have hb17 := hb15.setCell (p := ⟨w1.heap.size, 4, none⟩) (by simp) (.int .i64 v)
                          clear hmi5 hmz5 hbr5 hb15
                          go_wp2
                          go_roundw
                          case rel => exact ⟨jj + 1, p + 1, setF 110 v q, by omega, by omega, by go_num, by go_num, hmi7, hmz7, hop2, hll2, hbr7, hb17, HVI⟩
                          case measure => simp [intOf]; omega
            · have hje : jj = (formL 3).length := by omega
              rw [hje, left_end, List.length_nil] at hll
              have hopq := Lib.hid (show opers (letters 3) (r.map bts) ⟨0, 0, 0, (f : Int)⟩ = some q by rw [hop.out, hje, left_end]; rfl)
              have hjl2 : ¬ jj < (formB 3).size := hjl
              clear hop hje
              by_cases hpn : p + 1 = n
              · have hR : readV ((x :: r).map bts) = some (3, q) := by
                  rw [HRV.out, HNM.out, Option.bind_some]
                  simp only
                  rw [if_pos (by have h2 := HLr.out; omega), hopq.out]
                  rfl
                have HR := Lib.hid hR
                have hqn2 : ((p : Int) + 1 != (n : Int)) = false := by rw [bne_eq_false_iff_eq]; omega
                clear hR hopq
                obtain ⟨y0, y1, y2, y3, y4⟩ := qbox_cells hmi5
                go_wp2_with fail
                refine (r_check ((3 : Nat) : Int) q.a q.b q.c q.i hqi _).mono ?_
                rintro e w6 ⟨rfl, hb6⟩
                have hmi6 := hmi5.below hb6 hmi5.lt
                have hmz6 := hmz5.below hb6 hmz5.lt
                have hbr6 := hbr5.trans (hb6.mono hbr5.size)
                clear hb6 hmi5 hmz5 hbr5 hb15 y0 y1 y2 y3 y4
                obtain ⟨y0, y1, y2, y3, y4⟩ := qbox_cells hmi6
                obtain ⟨z0, z1, z2, z3, z4⟩ := boxed_cells (op := 0) (a := 0) (b := 0) (c := 0) (i := 0) hmz6
                have hfz := hmz6.frozen
                rcases chk_cases ((3 : Nat) : Int) q.a q.b q.c q.i with ⟨hc, _, _⟩ | hc | hc
                · have HQ2 := Lib.hid (show parseQ s = some (3, q) by rw [HQ.out, HR.out, Option.bind_some]; simp only; rw [if_pos hc])
                  have HE2 := Lib.hid ((show parseE s = chk ((3 : Nat) : Int) q.a q.b q.c q.i by rw [HE.out, HR.out]).trans hc)
                  rw [hc]
                  clear hc
                  have Y := Lib.hid (qbox_cells (mem_store5 hmz6 rfl (.int .i64 3) (.int .i64 q.a) (.int .i64 q.b) (.int .i64 q.c) (.int .i64 q.i)))
                  have hb7 := below_store5 hbr6 (Nat.le_refl _) (.int .i64 3) (.int .i64 q.a) (.int .i64 q.b) (.int .i64 q.c) (.int .i64 q.i)
                  clear hmi6 hmz6
                  go_wp2
                  refine bodyPost_ret (v := .tuple #[insR (parseQ s), .int .i64 (parseE s)]) ?_ rfl ⟨hb7, rfl⟩
                  rw [HQ2.out, HE2.out]
                  simp [results, Tryz.results28, go_sem, insR, Y.out.1, Y.out.2.1, Y.out.2.2.1, Y.out.2.2.2.1, Y.out.2.2.2.2]
                all_goals
                  have HQ2 := Lib.hid (show parseQ s = none by rw [HQ.out, HR.out, Option.bind_some]; simp only; rw [if_neg (by omega)])
                  have HE2 := Lib.hid ((show parseE s = chk ((3 : Nat) : Int) q.a q.b q.c q.i by rw [HE.out, HR.out]).trans hc)
                  rw [hc]
                  clear hc
                  have Y := Lib.hid (boxed_cells (op := 0) (a := 0) (b := 0) (c := 0) (i := 0) (mem_store5 hmz6 rfl (.int .i64 0) (.int .i64 0) (.int .i64 0) (.int .i64 0) (.int .i64 0)))
                  have hb7 := below_store5 hbr6 (Nat.le_refl _) (.int .i64 0) (.int .i64 0) (.int .i64 0) (.int .i64 0) (.int .i64 0)
                  clear hmi6 hmz6
                  go_wp2
                  refine bodyPost_ret (v := .tuple #[insR (parseQ s), .int .i64 (parseE s)]) ?_ rfl ⟨hb7, rfl⟩
                  rw [HQ2.out, HE2.out]
                  simp [results, Tryz.results28, go_sem, insR, Y.out.1, Y.out.2.1, Y.out.2.2.1, Y.out.2.2.2.1, Y.out.2.2.2.2]
              · have hR : readV ((x :: r).map bts) = none := by
                  rw [HRV.out, HNM.out, Option.bind_some]
                  simp only
                  rw [if_neg (by have h2 := HLr.out; omega)]
                have HQ2 := Lib.hid (show parseQ s = none by rw [HQ.out, hR]; rfl)
                have HE2 := Lib.hid (show parseE s = 4 by rw [HE.out, hR])
                have hqn2 : ((p : Int) + 1 != (n : Int)) = true := by rw [bne_iff_ne]; omega
                clear hR hopq
                obtain ⟨z0, z1, z2, z3, z4⟩ := boxed_cells (op := 0) (a := 0) (b := 0) (c := 0) (i := 0) hmz5
                have hfz := hmz5.frozen
                have Y := Lib.hid (boxed_cells (op := 0) (a := 0) (b := 0) (c := 0) (i := 0) (mem_store5 hmz5 rfl (.int .i64 0) (.int .i64 0) (.int .i64 0) (.int .i64 0) (.int .i64 0)))
                have hb4 := below_store5 hbr5 (Nat.le_refl _) (.int .i64 0) (.int .i64 0) (.int .i64 0) (.int .i64 0) (.int .i64 0)
                clear hmi5 hmz5
                go_wp2
                refine bodyPost_ret (v := .tuple #[insR (parseQ s), .int .i64 (parseE s)]) ?_ rfl ⟨hb4, rfl⟩
                rw [HQ2.out, HE2.out]
                simp [results, Tryz.results28, go_sem, insR, Y.out.1, Y.out.2.1, Y.out.2.2.1, Y.out.2.2.2.1, Y.out.2.2.2.2]
theorem r_parse (s : ByteArray) (w : World) : Calls Tryz.prog 28 #[.string s] w fun e w' => ParseIs s w e w' := by
  by_cases h : 200 < s.size
  · exact r_parse_long s h w
  · exact r_parse_short s (by omega) w
end Go.Proofs.YtcplhochgngedaaGreatDoor.RefQ
