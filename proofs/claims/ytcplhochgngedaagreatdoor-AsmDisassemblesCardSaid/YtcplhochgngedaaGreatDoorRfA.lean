/-
  Contracts of the reference of layer 4: Name, bare, Lines, find.
-/
import Derived.Test.YtcplhochgngedaaGreatDoorAsmF
import Derived.Test.YtcplhochgngedaaGreatDoorRefP
namespace Go.Proofs.YtcplhochgngedaaGreatDoor.RfA
open Go.ChangeShapes Go.WideShapes Go.ChangeAt Go.RowKit
open PlainT IsaE IsaS BlkW IsaA IsaB IsaF IsaP IsaQ IsaX IsaL AsmS AsmA AsmB IsaR MapW AsmC AsmR AsmE AsmF
set_option linter.unusedVariables false
set_option maxHeartbeats 1000000

/-! ### Name. -/
set_option maxRecDepth 100000 in
theorem r_Name (s : ByteArray) (v : Bool) (hv : isName (bts s) = v) (hs : s.size ≤ 100000) (w : World) : Calls Tryz.prog 25 #[.string s] w fun e w' => e = .returned (.bool v) ∧ w = w' := by
  have HV := Lib.hid hv
  clear hv
  by_cases h0 : s.size = 0
  · have hq : ((s.size : Int) == 0) = true := by rw [beq_iff_eq]; omega
    have hf := Lib.hid (show v = false by
      have : bts s = [] := List.eq_nil_of_length_eq_zero (by rw [bytes_len]; exact h0)
      rw [← HV.out, this]; rfl)
    go_enter Tryz.func25, Tryz.ntmps25
    go_wp2
    go_ret
    exact ⟨by rw [hf.out]; rfl, rfl⟩
  · have h : 0 < s.size := by omega
    have hq : ((s.size : Int) == 0) = false := by rw [beq_eq_false_iff_ne]; omega
    by_cases h20 : s.size ≤ 20
    · go_enter Tryz.func25, Tryz.ntmps25
      go_wp2
      clear hq
      go_loop [3] (fun iv => ∃ k : Nat, k ≤ s.size ∧ iv = .int .i64 k ∧ Hid (0 < k → letterB (s[0]'h) = true ∧ ((bts s).drop k).all nameC = v)) (fun iv => s.size - (intOf iv).toNat)
      case atStart => exact ⟨0, by omega, rfl, fun h => absurd h (by omega)⟩
      case round =>
        obtain ⟨k, hk, rfl, hr⟩ := hrel
        by_cases hlt : k < s.size
        · have hst := Lib.hid (all_step s k hlt)
          obtain ⟨c, hc⟩ : ∃ c, s[k]'hlt = c := ⟨_, rfl⟩
          have HC := Lib.hid hc
          rw [hc] at hst
          have hcb := c.toNat_lt
          by_cases hl : 97 ≤ c.toNat ∧ c.toNat ≤ 122
          · obtain ⟨hl1, hl2⟩ := hl
            have hlb : letterB c = true := by unfold letterB; simpa using ⟨hl1, hl2⟩
            have hr2 := Lib.hid (show 0 < k + 1 → letterB (s[0]'h) = true ∧ ((bts s).drop (k + 1)).all nameC = v from fun _ => by
              by_cases hk0 : k = 0
              · subst hk0
                have e0 : s[0]'h = c := HC.out
                refine ⟨by rw [e0]; exact hlb, ?_⟩
                rw [← HV.out, name_of s h h20 (by rw [e0]; exact hlb)]
              · obtain ⟨a, b⟩ := hr.out (by omega)
                rw [hst.out, nameC_first hlb, Bool.true_and] at b
                exact ⟨a, b⟩)
            clear hr hst hlb
            go_wp2
            go_round
            case rel => exact ⟨k + 1, by omega, by go_num, hr2⟩
            case measure => simp [intOf]; omega
          · have hlb : letterB c = false := by unfold letterB; simp; omega
            have hl3 : c.toNat < 97 ∨ 97 ≤ c.toNat ∧ 122 < c.toNat := by omega
            clear hl
            by_cases hk0 : k = 0
            · have hf := Lib.hid (show v = false by
                subst hk0
                have e0 : s[0]'h = c := HC.out
                rw [← HV.out]
                exact name_first s h (by rw [e0]; exact hlb))
              have hq0 : ((k : Int) == 0) = true := by rw [beq_iff_eq]; omega
              clear hr hst hlb hk0
              rcases hl3 with hl3 | ⟨hl3, hl4⟩
              all_goals
                try (have hdd : decide ((c.toNat : Int) ≤ 122) = false := decide_eq_false (by omega))
                go_wp2
                go_ret
                exact ⟨by rw [hf.out]; rfl, rfl⟩
            · have hq0 : ((k : Int) == 0) = false := by rw [beq_eq_false_iff_ne]; omega
              obtain ⟨ha, hb⟩ := hr.out (by omega)
              rw [hst.out] at hb
              cases hn : nameC c with
              | true =>
                rw [hn, Bool.true_and] at hb
                have hr2 := Lib.hid (show 0 < k + 1 → letterB (s[0]'h) = true ∧ ((bts s).drop (k + 1)).all nameC = v from fun _ => ⟨ha, hb⟩)
                have hy := nameC_yes hn hlb
                clear hr hst hlb hk0 ha hb hn
                rcases hy with h95 | ⟨h95, hd1, hd2⟩
                · have q : ((c.toNat : Int) != 95) = false := by rw [bne_eq_false_iff_eq]; omega
                  clear h95
                  rcases hl3 with hl3 | ⟨hl3, hl4⟩
                  all_goals
                    try (have hdd : decide ((c.toNat : Int) ≤ 122) = false := decide_eq_false (by omega))
                    go_wp2
                    go_round
                    case rel => exact ⟨k + 1, by omega, by go_num, hr2⟩
                    case measure => simp [intOf]; omega
                · have q : ((c.toNat : Int) != 95) = true := by rw [bne_iff_ne]; omega
                  clear h95
                  rcases hl3 with hl3 | ⟨hl3, hl4⟩
                  · go_wp2
                    go_round
                    case rel => exact ⟨k + 1, by omega, by go_num, hr2⟩
                    case measure => simp [intOf]; omega
                  · omega
              | false =>
                rw [hn, Bool.false_and] at hb
                have hf := Lib.hid hb.symm
                obtain ⟨_, h95, hd⟩ := nameC_no hn
                have q : ((c.toNat : Int) != 95) = true := by rw [bne_iff_ne]; omega
                clear hr hst hlb hk0 ha hb hn h95
                rcases hl3 with hl3 | ⟨hl3, hl4⟩
                all_goals
                  rcases hd with hd | ⟨hd1, hd2⟩
                  all_goals first | omega | skip
                all_goals
                  try (have hdd : decide ((c.toNat : Int) ≤ 122) = false := decide_eq_false (by omega))
                  go_wp2
                  go_ret
                  exact ⟨by rw [hf.out]; rfl, rfl⟩
        · have hf := Lib.hid (show v = true by
            have := (hr.out (by omega)).2
            rw [← this, show k = s.size by omega, ← bytes_len, List.drop_length]; rfl)
          clear hr
          go_wp2
          go_ret
          exact ⟨by rw [hf.out]; rfl, rfl⟩
    · have hf := Lib.hid (show v = false by rw [← HV.out]; exact name_long (by rw [bytes_len]; omega))
      go_enter Tryz.func25, Tryz.ntmps25
      go_wp2
      go_ret
      exact ⟨by rw [hf.out]; rfl, rfl⟩

/-! ### bare. -/
theorem drop_at (s : ByteArray) (k : Nat) (h : k < s.size) : (bts s).drop k = s[k]'h :: (bts s).drop (k + 1) := List.drop_eq_getElem_cons (by rw [bytes_len]; exact h)
theorem extract_take (s : ByteArray) (k : Nat) : s.extract 0 k = mk ((bts s).take k) := by
  apply IsaP.bytes_inj
  rw [bts_mk]
  unfold bts
  rw [ByteArray.data_extract, Array.toList_extract]
  simp [List.extract]
theorem r_bare (s : ByteArray) (hs : s.size ≤ 100000) (w : World) : Calls Tryz.prog 23 #[.string s] w fun e w' => e = .returned (.string (codeOf s)) ∧ w = w' := by
  go_enter Tryz.func23, Tryz.ntmps23
  go_wp2
  go_loop [3] (fun iv => ∃ k : Nat, k ≤ s.size ∧ iv = .int .i64 k ∧ Hid (bareL (bts s) = (bts s).take k ++ bareL ((bts s).drop k))) (fun iv => s.size - (intOf iv).toNat)
  case atStart => exact ⟨0, by omega, rfl, by rw [List.take_zero, List.drop_zero]; rfl⟩
  case round =>
    obtain ⟨k, hk, rfl, hr⟩ := hrel
    by_cases hlt : k < s.size
    · obtain ⟨c, hc⟩ : ∃ c, s[k]'hlt = c := ⟨_, rfl⟩
      have hd := Lib.hid (show (bts s).drop k = c :: (bts s).drop (k + 1) by rw [drop_at s k hlt, hc])
      have ht := Lib.hid (show (bts s).take (k + 1) = (bts s).take k ++ [c] by
        rw [List.take_succ_eq_append_getElem (by rw [bytes_len]; exact hlt)]
        congr 2)
      by_cases h35 : c = 35
      · have hq : ((c.toNat : Int) == 35) = true := by rw [h35]; rfl
        have hf := Lib.hid (show codeOf s = s.extract 0 k by
          unfold codeOf
          rw [hr.out, hd.out, h35, extract_take]
          simp [bareL])
        clear hr hd ht h35
        go_wp2
        go_ret
        exact ⟨by rw [hf.out]; rfl, rfl⟩
      · have hq : ((c.toNat : Int) == 35) = false := by
          rw [beq_eq_false_iff_ne]
          intro e
          apply h35
          apply UInt8.toNat_inj.1
          show c.toNat = 35
          omega
        have hr2 := Lib.hid (show bareL (bts s) = (bts s).take (k + 1) ++ bareL ((bts s).drop (k + 1)) by
          rw [hr.out, hd.out, ht.out]
          unfold bareL
          rw [List.takeWhile_cons, if_pos (by simpa using h35)]
          simp)
        clear hr hd ht h35
        go_wp2
        go_round
        case rel => exact ⟨k + 1, by omega, by go_num, hr2⟩
        case measure => simp [intOf]; omega
    · have hf := Lib.hid (show codeOf s = s by
        unfold codeOf
        rw [hr.out, show k = s.size by omega, ← bytes_len, List.drop_length, List.take_length, bare_nil, List.append_nil]
        exact mk_bts s)
      clear hr
      go_wp2
      go_ret
      exact ⟨by rw [hf.out]; rfl, rfl⟩

/-! ### find. -/
def findI (l : List ByteArray) (s : ByteArray) : Int := match l.findIdx? (fun y => bts y == bts s) with | some k => (k : Int) | none => -1
theorem r_find (l : List ByteArray) (s : ByteArray) (A : Option Addr) (n c : Nat) (hn : n ≤ 1000000) (w : World) (hr : StrRow w A n l) : Calls Tryz.prog 26 #[.slice A n c, .string s] w fun e w' => e = .returned (.int .i64 (findI l s)) ∧ w = w' := by
  have hl := hr.1
  go_enter Tryz.func26, Tryz.ntmps26
  go_wp2
  go_loop [5] (fun iv => ∃ k : Nat, k ≤ n ∧ iv = .int .i64 k ∧ Hid (∀ j y, j < k → l[j]? = some y → bts y ≠ bts s)) (fun iv => n - (intOf iv).toNat)
  case atStart => exact ⟨0, by omega, rfl, fun j y h => absurd h (by omega)⟩
  case round =>
    obtain ⟨k, hk, rfl, hu⟩ := hrel
    by_cases hlt : k < n
    · obtain ⟨b, off, rfl, hb, hc⟩ := hr.2 (by omega)
      obtain ⟨x, hx⟩ : ∃ x, l[k]? = some x := ⟨l[k], List.getElem?_eq_getElem (by omega)⟩
      have hcell := hc k x hx
      have HX := Lib.hid hx
      clear hx hc
      by_cases he : x = s
      · have hf := Lib.hid (show findI l s = k by
          unfold findI
          have : l.findIdx? (fun y => bts y == bts s) = some k := by
            rw [List.findIdx?_eq_some_iff_getElem]
            obtain ⟨h1, h2⟩ := List.getElem?_eq_some_iff.1 HX.out
            refine ⟨h1, by rw [h2, he]; simp, fun j hj => ?_⟩
            have := hu.out j l[j] hj (List.getElem?_eq_getElem (by omega))
            simpa using this
          rw [this])
        subst he
        clear hu
        go_wp2
        go_ret
        exact ⟨by rw [hf.out]; rfl, rfl⟩
      · have hq := str_ne (a := x) (b := s) (fun e => he (IsaP.bytes_inj e))
        have hu2 := Lib.hid (show ∀ j y, j < k + 1 → l[j]? = some y → bts y ≠ bts s from fun j y hj hy => by
          by_cases e : j = k
          · subst e
            rw [HX.out] at hy
            injection hy with hy
            subst hy
            exact fun e => he (IsaP.bytes_inj e)
          · exact hu.out j y (by omega) hy)
        clear he hu
        go_wp2
        go_round
        case rel => exact ⟨k + 1, by omega, by go_num, hu2⟩
        case measure => simp [intOf]; omega
    · have hf := Lib.hid (show findI l s = -1 by
        unfold findI
        have : l.findIdx? (fun y => bts y == bts s) = none := by
          rw [List.findIdx?_eq_none_iff]
          intro y hy
          obtain ⟨j, hj, e⟩ := List.getElem_of_mem hy
          have := hu.out j y (by omega) (by rw [List.getElem?_eq_getElem hj, e])
          simpa using this
        rw [this])
      clear hu
      go_wp2
      go_ret
      exact ⟨by rw [hf.out]; rfl, rfl⟩

/-! ### Lines. -/
/-- A new slice of strings. -/
def StrsIs (ls : List ByteArray) (w : World) (e : Ending) (w' : World) : Prop := ∃ A c, e = .returned (.slice A ls.length c) ∧ ls.length ≤ c ∧ c ≤ maxLen ∧ StrRow w' A ls.length ls ∧ Below w.heap.size w w'
theorem row_of_str {w : World} {base : Nat} {e : TypeId} {v : Value} {ls : List ByteArray} (h : w.ownsRow base e 1 v ls.length (ls.map Value.string)) : ∃ A c, v = .slice A ls.length c ∧ ls.length ≤ c ∧ c ≤ maxLen ∧ StrRow w A ls.length ls := by
  obtain ⟨A, c, rfl, h1, h2⟩ := own_slice h
  refine ⟨A, c, rfl, h1, h2, rfl, fun h0 => ?_⟩
  obtain ⟨g, cap, cur, e0, _, _, hl, hc⟩ := own_cells h h0
  injection e0 with e1 _ _
  refine ⟨g, 0, e1, hl, fun j x hx => ?_⟩
  rw [Nat.zero_add]
  have hj := (List.getElem?_eq_some_iff.1 hx).1
  rw [hc j (by omega), List.getElem?_map, hx]; rfl
theorem cutFrom_step (s : ByteArray) (b i : Nat) (hb : b ≤ i) (hi : i < s.size) (h : s.data.toList.getD i 0 ≠ 10) : cutFrom (bts (s.extract b i)) ((bts s).drop i) = cutFrom (bts (s.extract b (i + 1))) ((bts s).drop (i + 1)) := by
  rw [ext_snoc s b i hb hi]
  have hd : (bts s).drop i = s.data.toList.getD i 0 :: (bts s).drop (i + 1) := by
    rw [List.drop_eq_getElem_cons (by rw [bytes_len]; exact hi)]
    congr 1
    rw [List.getD_eq_getElem?_getD, List.getElem?_eq_getElem (by have := size_eq s; omega), Option.getD_some]
    rfl
  rw [hd, cutFrom, if_neg h]
theorem cutFrom_end (s : ByteArray) (b i : Nat) (hi : i < s.size) (h : s.data.toList.getD i 0 = 10) : cutFrom (bts (s.extract b i)) ((bts s).drop i) = bts (s.extract b i) :: cutFrom (bts (s.extract (i + 1) (i + 1))) ((bts s).drop (i + 1)) := by
  have hd : (bts s).drop i = s.data.toList.getD i 0 :: (bts s).drop (i + 1) := by
    rw [List.drop_eq_getElem_cons (by rw [bytes_len]; exact hi)]
    congr 1
    rw [List.getD_eq_getElem?_getD, List.getElem?_eq_getElem (by have := size_eq s; omega), Option.getD_some]
    rfl
  rw [hd, cutFrom, if_pos h, ext_nil]
theorem byte_getD (s : ByteArray) (i : Nat) (h : i < s.size) : s.data.toList.getD i 0 = s[i]'h := by
  rw [List.getD_eq_getElem?_getD, List.getElem?_eq_getElem (by have := size_eq s; omega), Option.getD_some]
  rfl
/-- The lines of the reference. -/
def linesB (s : ByteArray) : List ByteArray := (trimLast (pieces (bts s))).map mk
theorem linesB_last (s : ByteArray) (acc : List ByteArray) (x : ByteArray) (h : acc.map bts ++ [bts x] = pieces (bts s)) : linesB s = if x.size = 0 then acc else acc ++ [x] := by
  have hm : ∀ l : List ByteArray, (l.map bts).map mk = l := fun l => by
    rw [List.map_map]
    have : (mk ∘ bts) = id := by funext y; exact mk_bts y
    rw [this, List.map_id]
  unfold linesB trimLast
  rw [← h]
  by_cases h0 : x.size = 0
  · have hx : bts x = [] := List.eq_nil_of_length_eq_zero (by rw [bytes_len]; exact h0)
    rw [if_pos h0, if_pos (by rw [hx]; simp), List.dropLast_concat, hm]
  · have hx : bts x ≠ [] := fun e => by
      have := congrArg List.length e
      rw [bytes_len] at this
      exact h0 this
    rw [if_neg h0, if_neg (by simp; exact hx)]
    have := hm (acc ++ [x])
    rw [List.map_append] at this
    exact this
set_option maxHeartbeats 2000000 in
theorem r_Lines (s : ByteArray) (hs : s.size ≤ 100000) (w : World) : Calls Tryz.prog 19 #[.string s] w fun e w' => StrsIs (linesB s) w e w' := by
  obtain ⟨i0, hi, hz0, hz1, hz2⟩ := info_parts info_string
  go_enter Tryz.func19, Tryz.ntmps19
  go_wp2
  go_loopw [3, 4, 5] (fun v fv iv wr => ∃ (i b : Nat) (acc : List ByteArray), i ≤ s.size ∧ b ≤ i ∧ acc.length ≤ i ∧ iv = .int .i64 i ∧ fv = .int .i64 b ∧ wr.ownsRow w.heap.size 9 1 v acc.length (acc.map Value.string) ∧ Hid (acc.map bts ++ cutFrom (bts (s.extract b i)) ((bts s).drop i) = pieces (bts s)) ∧ Below w.heap.size w wr) (fun _ _ iv _ => s.size - (intOf iv).toNat)
  case atStart => exact ⟨0, 0, [], by omega, by omega, by simp, rfl, rfl, World.ownsRow_nil _ _ _ _, by rw [ext_nil, List.drop_zero]; rfl, Below.refl _ _⟩
  case round =>
    obtain ⟨i, b, acc, hi1, hb1, hac, rfl, rfl, hown, hw, hb⟩ := hrel
    by_cases hlt : i < s.size
    · obtain ⟨c, hc⟩ : ∃ c, s[i]'hlt = c := ⟨_, rfl⟩
      have hg := Lib.hid ((byte_getD s i hlt).trans hc)
      by_cases h10 : c = 10
      · have hq : ((c.toNat : Int) == 10) = true := by rw [h10]; rfl
        have hw2 := Lib.hid (show (acc ++ [s.extract b i]).map bts ++ cutFrom (bts (s.extract (i + 1) (i + 1))) ((bts s).drop (i + 1)) = pieces (bts s) by
          rw [← hw.out, cutFrom_end s b i hlt (hg.out.trans h10), List.map_append]
          simp)
        clear hw hg h10
        go_wp2_with (at_builtin; refine wpList_append_own _ rfl _ _ 43 rfl w.heap.size 9 i0 (.string ⟨#[]⟩) 1 16 Tryz.underlying43 hi hz0 hz1 hz2 rfl (by decide) _ _ _ rfl (hown.alloc _) ⟨wr.heap.size, 0, none⟩ 1 1 [.string (s.extract b i)] rfl rfl (cell_one_new _ _ _) ?c2 ?c3 ?c4 ?c5 ?_)
        case c2 => intro u hu; simp at hu; subst hu; rfl
        case c3 => unfold maxLen; omega
        case c4 => omega
        case c5 => rw [size_new]; have := hb.size; omega
        intro v' w4 hown4 hg4 _
        have hb4 := grown_below (hb.alloc hb.size _) hg4 (by rw [size_new]; have := hb.size; omega) (fun q hq => (hown.lt q hq).1)
        have hown5 : w4.ownsRow w.heap.size 9 1 v' (acc ++ [s.extract b i]).length ((acc ++ [s.extract b i]).map Value.string) := by
          rw [List.length_append, List.map_append]
          exact hown4
        have hl5 : (acc ++ [s.extract b i]).length ≤ i + 1 := by rw [List.length_append, List.length_singleton]; omega
        clear hown4 hg4 hown hb
        go_wp2
        go_roundw
        case rel => exact ⟨i + 1, i + 1, acc ++ [s.extract b i], by omega, by omega, hl5, by go_num, by go_num, hown5, hw2, hb4⟩
        case measure => simp [intOf]; omega
      · have hq : ((c.toNat : Int) == 10) = false := by
          rw [beq_eq_false_iff_ne]
          intro e
          apply h10
          apply UInt8.toNat_inj.1
          show c.toNat = 10
          omega
        have hw2 := Lib.hid (show acc.map bts ++ cutFrom (bts (s.extract b (i + 1))) ((bts s).drop (i + 1)) = pieces (bts s) by
          rw [← hw.out, cutFrom_step s b i hb1 hlt (by rw [hg.out]; exact h10)])
        clear hw hg h10
        go_wp2
        go_roundw
        case rel => exact ⟨i + 1, b, acc, by omega, by omega, by omega, by go_num, rfl, hown, hw2, hb⟩
        case measure => simp [intOf]; omega
    · have hL := Lib.hid (linesB_last s acc (s.extract b s.size) (by
        rw [← hw.out, show i = s.size by omega, ← bytes_len, List.drop_length, bytes_len]
        rfl))
      have hx : (s.extract b s.size).size = s.size - b := by rw [ByteArray.size_extract]; omega
      clear hw
      by_cases hbl : b < s.size
      · have hL2 := Lib.hid (show linesB s = acc ++ [s.extract b s.size] by rw [hL.out, if_neg (by omega)])
        clear hL hx
        go_wp2_with (at_builtin; refine wpList_append_own _ rfl _ _ 43 rfl w.heap.size 9 i0 (.string ⟨#[]⟩) 1 16 Tryz.underlying43 hi hz0 hz1 hz2 rfl (by decide) _ _ _ rfl (hown.alloc _) ⟨wr.heap.size, 0, none⟩ 1 1 [.string (s.extract b s.size)] rfl rfl (cell_one_new _ _ _) ?d2 ?d3 ?d4 ?d5 ?_)
        case d2 => intro u hu; simp at hu; subst hu; rfl
        case d3 => unfold maxLen; omega
        case d4 => omega
        case d5 => rw [size_new]; have := hb.size; omega
        intro v' w4 hown4 hg4 _
        have hb4 := grown_below (hb.alloc hb.size _) hg4 (by rw [size_new]; have := hb.size; omega) (fun q hq => (hown.lt q hq).1)
        have hown5 : w4.ownsRow w.heap.size 9 1 v' (acc ++ [s.extract b s.size]).length ((acc ++ [s.extract b s.size]).map Value.string) := by
          rw [List.length_append, List.map_append]
          exact hown4
        rw [← hL2.out] at hown5
        obtain ⟨A, c, rfl, h1, h2, h3⟩ := row_of_str hown5
        clear hown4 hg4 hown hb hown5
        go_wp2
        go_ret
        exact ⟨A, c, rfl, h1, h2, h3, hb4⟩
      · have hL2 := Lib.hid (show linesB s = acc by rw [hL.out, if_pos (by omega)])
        clear hL hx
        rw [← hL2.out] at hown
        obtain ⟨A, c, rfl, h1, h2, h3⟩ := row_of_str hown
        clear hown
        go_wp2
        go_ret
        exact ⟨A, c, rfl, h1, h2, h3, hb⟩
end Go.Proofs.YtcplhochgngedaaGreatDoor.RfA
