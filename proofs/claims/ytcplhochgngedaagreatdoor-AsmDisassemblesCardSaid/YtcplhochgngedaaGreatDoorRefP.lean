/-
  Contracts of the reference's readers of layer 3: Words, Register, Number.
-/
import Derived.Test.YtcplhochgngedaaGreatDoorIsaX
namespace Go.Proofs.YtcplhochgngedaaGreatDoor.RefP
open Go.ChangeShapes Go.WideShapes Go.ChangeAt Go.RowKit
open PlainT IsaE IsaS BlkW IsaA IsaB IsaF IsaP IsaQ IsaX
set_option linter.unusedVariables false
set_option maxHeartbeats 400000
set_option maxRecDepth 100000

/-! ### Register. -/
theorem r_Register (s : ByteArray) (w : World) : Calls Tryz.prog 53 #[.string s] w fun e w' => RegIs s w e w' := by
  by_cases h2 : s.size = 2
  · have hb : (bts s).length = 2 := by rw [bytes_len]; exact h2
    have h0 : 0 < s.size := by omega
    have h1 : 1 < s.size := by omega
    have hl : bts s = [s[0]'h0, s[1]'h1] := by
      apply List.ext_getElem hb
      intro i hi _
      have : i = 0 ∨ i = 1 := by rw [hb] at hi; omega
      rcases this with rfl | rfl <;> rfl
    obtain ⟨x, hx⟩ : ∃ x, s[0]'h0 = x := ⟨_, rfl⟩
    obtain ⟨y, hy⟩ : ∃ y, s[1]'h1 = y := ⟨_, rfl⟩
    rw [hx, hy] at hl
    have HL := Lib.hid hl
    have hyb := y.toNat_lt
    clear hl hb
    by_cases h114 : x.toNat = 114
    · have q : ((x.toNat : Int) != 114) = false := by simp [h114]
      have key : regOf (bts s) = if 48 ≤ y.toNat ∧ y.toNat ≤ 55 then some ((y.toNat : Int) - 48) else none := by
        rw [HL.out]
        unfold regOf
        simp only [h114, true_and]
      by_cases hy0 : y.toNat < 48
      · have hn := Lib.hid (show regOf (bts s) = none by rw [key, if_neg (by omega)])
        clear key
        go_enter Tryz.func53, Tryz.ntmps53
        go_wp2
        go_ret2
        exact RegIs.none hn.out
      · by_cases hy1 : 55 < y.toNat
        · have hn := Lib.hid (show regOf (bts s) = none by rw [key, if_neg (by omega)])
          clear key
          go_enter Tryz.func53, Tryz.ntmps53
          go_wp2
          go_ret2
          exact RegIs.none hn.out
        · have hn := Lib.hid (show regOf (bts s) = some ((y.toNat : Int) - 48) by rw [key, if_pos (by omega)])
          clear key
          have hw : IntKind.u8.wrap ((y.toNat : Int) - 48) = (y.toNat : Int) - 48 := by
            unfold IntKind.wrap; simp [IntKind.signed, IntKind.bits]; omega
          go_enter Tryz.func53, Tryz.ntmps53
          go_wp2
          go_ret2
          exact ⟨rfl, (y.toNat : Int) - 48, by rw [hn.out]; rfl, fun u hu => by rw [hn.out] at hu; injection hu⟩
    · have q : ((x.toNat : Int) != 114) = true := by simp; omega
      have hn := Lib.hid (show regOf (bts s) = none by rw [HL.out]; unfold regOf; simp only; rw [if_neg (by omega)])
      go_enter Tryz.func53, Tryz.ntmps53
      go_wp2
      go_ret2
      exact RegIs.none hn.out
  · have q : ((s.size : Int) != 2) = true := by simp; omega
    have hn := Lib.hid (regOf_len (l := bts s) (by rw [bytes_len]; exact h2))
    clear h2
    go_enter Tryz.func53, Tryz.ntmps53
    go_wp2
    go_ret2
    exact RegIs.none hn.out

/-! ### Words. -/
theorem getD_at (s : ByteArray) (i : Nat) (h : i < s.size) : s.data.toList.getD i 0 = s[i] := by
  rw [List.getD_eq_getElem?_getD, List.getElem?_eq_getElem (by simpa using h)]
  rfl
def WordsR (s : ByteArray) (w : World) (e : Ending) (w' : World) : Prop := ∃ A n c, e = .returned (.slice A n c) ∧ StrRow w' A n (words s) ∧ n ≤ s.size + 1 ∧ Below w.heap.size w w'
theorem strrow_of_own {w : World} {base : Nat} {e : TypeId} {v : Value} {n : Nat} {xs : List ByteArray} (h : w.ownsRow base e 1 v n (xs.map Value.string)) : ∃ A c, v = .slice A n c ∧ StrRow w A n xs := by
  have hl : xs.length = n := by simpa using h.1
  by_cases hn : 0 < n
  · obtain ⟨g, cap, rfl, _, hg, _, _, hc⟩ := str_of_own h hn
    exact ⟨_, cap, rfl, hl, fun _ => ⟨g, 0, rfl, hg, fun j x hx => by rw [Nat.zero_add]; exact hc j x hx⟩⟩
  · rcases h.2 with ⟨rfl, _⟩ | ⟨g, cap, cur, rfl, _⟩
    · exact ⟨none, 0, by rw [show n = 0 by omega], hl, fun h => absurd h hn⟩
    · exact ⟨_, cap, rfl, hl, fun h => absurd h hn⟩
theorem r_Words (s : ByteArray) (hs : s.size ≤ 100000) (w : World) : Calls Tryz.prog 24 #[.string s] w fun e w' => WordsR s w e w' := by
  obtain ⟨i0, hi, hz0, hz1, hz2⟩ := info_parts info_string
  go_enter Tryz.func24, Tryz.ntmps24
  go_wp2
  go_loopw [3, 4, 5] (fun v fb iv wr => ∃ (i b : Nat) (acc : List ByteArray), i ≤ s.size + 1 ∧ b ≤ i ∧ acc.length ≤ i ∧ iv = .int .i64 i ∧ fb = .int .i64 b ∧ wr.ownsRow w.heap.size 9 1 v acc.length (acc.map Value.string) ∧ Hid (wordsAt s i b acc = words s) ∧ Below w.heap.size w wr) (fun _ _ iv _ => s.size + 1 - (intOf iv).toNat)
  case atStart => exact ⟨0, 0, [], by omega, by omega, by simp, rfl, rfl, World.ownsRow_nil _ _ _ _, wordsAt_start s, Below.refl _ _⟩
  case round =>
    obtain ⟨i, b, acc, hi1, hbi, hac, rfl, rfl, hown, hw, hb⟩ := hrel
    by_cases hle : i ≤ s.size
    · by_cases hin : i < s.size ∧ (s.data.toList.getD i 0).toNat ≠ 32
      · have hw2 := Lib.hid ((wordsAt_in (b := b) (acc := acc) hin.1 hin.2).symm.trans hw.out)
        have hlt := hin.1
        have hq : ((s[i].toNat : Int) != 32) = true := by
          have := hin.2
          rw [getD_at s i hlt] at this
          simp; omega
        clear hin hw
        go_wp2
        go_roundw
        case rel => exact ⟨i + 1, b, acc, by omega, by omega, by omega, by go_num, rfl, hown, hw2, hb⟩
        case measure => simp [intOf]; omega
      · have hw2 := Lib.hid ((wordsAt_sp (b := b) (acc := acc) hle hin).symm.trans hw.out)
        clear hw
        have hcut : ¬ i < s.size ∨ (∃ h : i < s.size, ((s[i]'h).toNat : Int) = 32) := by
          by_cases hlt : i < s.size
          · right
            refine ⟨hlt, ?_⟩
            rw [getD_at s i hlt] at hin
            omega
          · exact .inl hlt
        clear hin
        by_cases hbl : b < i
        · have hw3 := Lib.hid (show wordsAt s (i + 1) (i + 1) (acc ++ [s.extract b i]) = words s by have := hw2.out; rw [if_pos hbl] at this; exact this)
          clear hw2
          have hcut2 : (¬ i < s.size) ∨ (∃ h : i < s.size, (((s[i]'h).toNat : Int) != 32) = false) := by
            rcases hcut with h | ⟨h, e⟩
            · exact .inl h
            · exact .inr ⟨h, by rw [e]; rfl⟩
          clear hcut
          rcases hcut2 with hlt | ⟨hlt, hq⟩
          all_goals
            go_wp2_with (at_builtin; refine wpList_append_own _ rfl _ _ 43 rfl w.heap.size 9 i0 (.string ⟨#[]⟩) 1 16 Tryz.underlying43 hi hz0 hz1 hz2 rfl (by decide) _ _ _ rfl (hown.alloc _) ⟨wr.heap.size, 0, none⟩ 1 1 [.string (s.extract b i)] rfl rfl (cell_one_new _ _ _) ?c2 ?c3 ?c4 ?c5 ?_)
            case c2 => intro u hu; simp at hu; subst hu; rfl
            case c3 => unfold maxLen; omega
            case c4 => omega
            case c5 => rw [size_new]; have := hb.size; omega
            intro v' w4 hown4 hg4 _
            have hb4 := grown_below (hb.alloc hb.size _) hg4 (by rw [size_new]; have := hb.size; omega) (fun q hq => (hown.lt q hq).1)
            have hown5 : w4.ownsRow w.heap.size 9 1 v' (acc ++ [s.extract b i]).length ((acc ++ [s.extract b i]).map Value.string) := by
              rw [List.length_append, List.map_append]
              exact hown4
            have hl5 : (acc ++ [s.extract b i]).length ≤ i + 1 := by rw [List.length_append, List.length_singleton]; omega
            clear hown4 hg4 hown hb
            go_wp2
            go_roundw
            case rel => exact ⟨i + 1, i + 1, acc ++ [s.extract b i], by omega, by omega, hl5, by go_num, by go_num, hown5, hw3, hb4⟩
            case measure => simp [intOf]; omega
        · have hw3 := Lib.hid (show wordsAt s (i + 1) (i + 1) acc = words s by have := hw2.out; rw [if_neg hbl] at this; exact this)
          clear hw2
          have hcut2 : (¬ i < s.size) ∨ (∃ h : i < s.size, (((s[i]'h).toNat : Int) != 32) = false) := by
            rcases hcut with h | ⟨h, e⟩
            · exact .inl h
            · exact .inr ⟨h, by rw [e]; rfl⟩
          clear hcut
          rcases hcut2 with hlt | ⟨hlt, hq⟩
          all_goals
            go_wp2
            go_roundw
            case rel => exact ⟨i + 1, i + 1, acc, by omega, by omega, by omega, by go_num, by go_num, hown, hw3, hb⟩
            case measure => simp [intOf]; omega
    · have hie : i = s.size + 1 := by omega
      have hw3 := Lib.hid (show acc = words s by have := hw.out; rw [hie, wordsAt_end] at this; exact this)
      clear hw hie
      go_wp2
      go_ret
      rw [hw3.out] at hown hac
      obtain ⟨A, c, rfl, hr⟩ := strrow_of_own hown
      exact ⟨A, _, c, rfl, hr, by omega, hb⟩

/-! ### Number. -/
theorem bts_at (s : ByteArray) (i : Nat) (h : i < s.size) : (bts s)[i]'(by rw [bytes_len]; exact h) = s[i] := rfl
theorem goNum_at (s : ByteArray) (i : Nat) (v : Int) (h : i < s.size) : goNum v ((bts s).drop i) =
    if 48 ≤ (s[i]'h).toNat ∧ (s[i]'h).toNat ≤ 57 then (if v < -922337203685477580 ∨ (v = -922337203685477580 ∧ 8 < (s[i]'h).toNat - 48) then none else goNum (10 * v - ((s[i]'h).toNat - 48 : Nat)) ((bts s).drop (i + 1))) else none := by
  rw [List.drop_eq_getElem_cons (by rw [bytes_len]; exact h), bts_at s i h]
  rfl
theorem num_neg (s : ByteArray) (h : 0 < s.size) (hc : (s[0]'h).toNat = 45) (h1 : 1 < s.size) : num (bts s) = goNum 0 ((bts s).drop 1) := by
  have e : bts s = s[0] :: (bts s).drop 1 := by
    have := List.drop_eq_getElem_cons (l := bts s) (i := 0) (by rw [bytes_len]; exact h)
    rw [List.drop_zero] at this
    exact this
  have hne : (bts s).drop 1 ≠ [] := by
    intro e0
    have := congrArg List.length e0
    rw [List.length_drop, bytes_len] at this
    simp at this
    omega
  rw [e]
  unfold num
  simp only
  rw [if_pos hc, if_neg hne]
  rfl
theorem num_one (s : ByteArray) (h : s.size = 1) (hc : (s[0]'(by omega)).toNat = 45) : num (bts s) = none := by
  have e : bts s = s[0] :: (bts s).drop 1 := by
    have := List.drop_eq_getElem_cons (l := bts s) (i := 0) (by rw [bytes_len]; omega)
    rw [List.drop_zero] at this
    exact this
  have hn : (bts s).drop 1 = [] := List.drop_eq_nil_of_le (by rw [bytes_len]; omega)
  rw [e, hn]
  unfold num
  simp only
  rw [if_pos hc, if_pos trivial]
theorem num_pos (s : ByteArray) (h : 0 < s.size) (hc : (s[0]'h).toNat ≠ 45) : num (bts s) = match goNum 0 ((bts s).drop 0) with | some v => if v = -9223372036854775808 then none else some (-v) | none => none := by
  have e : bts s = s[0] :: (bts s).drop 1 := by
    have := List.drop_eq_getElem_cons (l := bts s) (i := 0) (by rw [bytes_len]; exact h)
    rw [List.drop_zero] at this
    exact this
  rw [List.drop_zero, e]
  unfold num
  simp only
  rw [if_neg hc]
  rfl
theorem num_nil (s : ByteArray) (h : s.size = 0) : num (bts s) = none := by
  have e : bts s = [] := List.length_eq_zero_iff.1 (by rw [bytes_len]; exact h)
  rw [e]; rfl
theorem r_Number_neg (s : ByteArray) (hs : s.size ≤ 200) (h : 0 < s.size) (hc : (s[0]'h).toNat = 45) (h1 : 1 < s.size) (w : World) : Calls Tryz.prog 56 #[.string s] w fun e w' => NumIs s w e w' := by
    have HN := Lib.hid (num_neg s h hc h1)
    have q : (((s[0]'h).toNat : Int) == 45) = true := by simp [hc]
    have q1 : ((1 : Int) == (s.size : Int)) = false := by rw [beq_eq_false_iff_ne]; omega
    clear hc
    go_enter Tryz.func56, Tryz.ntmps56
    go_wp2
    clear q q1
    go_loop [5, 6, 7] (fun vv iv dv => ∃ (i : Nat) (v : Int), 1 ≤ i ∧ i ≤ s.size ∧ -9223372036854775808 ≤ v ∧ v ≤ 0 ∧ iv = .int .i64 i ∧ vv = .int .i64 v ∧ Hid (goNum 0 ((bts s).drop 1) = goNum v ((bts s).drop i))) (fun _ iv _ => s.size - (intOf iv).toNat)
    case atStart => exact ⟨1, 0, by omega, by omega, by omega, by omega, rfl, rfl, rfl⟩
    case round =>
      obtain ⟨i, v, hi0, hi1, hv0, hv1, rfl, rfl, hg⟩ := hrel
      by_cases hlt : i < s.size
      · have hst := Lib.hid (goNum_at s i v hlt)
        have hcb := (s[i]'hlt).toNat_lt
        obtain ⟨c, hc⟩ : ∃ c, s[i]'hlt = c := ⟨_, rfl⟩
        rw [hc] at hst hcb
        by_cases hd0 : c.toNat < 48
        · have hn := Lib.hid (show num (bts s) = none by rw [HN.out, hg.out, hst.out, if_neg (by omega)])
          clear hg hst
          go_wp2
          go_ret2
          exact NumIs.none hn.out (Below.refl _ _)
        · by_cases hd1 : 57 < c.toNat
          · have hn := Lib.hid (show num (bts s) = none by rw [HN.out, hg.out, hst.out, if_neg (by omega)])
            clear hg hst
            go_wp2
            go_ret2
            exact NumIs.none hn.out (Below.refl _ _)
          · have hw : IntKind.u8.wrap ((c.toNat : Int) - 48) = (c.toNat : Int) - 48 := by
              unfold IntKind.wrap; simp [IntKind.signed, IntKind.bits]; omega
            by_cases ho : v < -922337203685477580
            · have hn := Lib.hid (show num (bts s) = none by rw [HN.out, hg.out, hst.out, if_pos (by omega), if_pos (by omega)])
              clear hg hst
              go_wp2
              go_ret2
              exact NumIs.none hn.out (Below.refl _ _)
            · by_cases he : v = -922337203685477580
              · subst he
                by_cases hd8 : 8 < (c.toNat : Int) - 48
                · have hn := Lib.hid (show num (bts s) = none by rw [HN.out, hg.out, hst.out, if_pos (by omega), if_pos (by omega)])
                  clear hg hst
                  go_wp2
                  go_ret2
                  exact NumIs.none hn.out (Below.refl _ _)
                · have hg2 := Lib.hid (show goNum 0 ((bts s).drop 1) = goNum (-9223372036854775800 - ((c.toNat : Int) - 48)) ((bts s).drop (i + 1)) by rw [hg.out, hst.out, if_pos (by omega), if_neg (by omega)]; congr 1; omega)
                  clear hg hst
                  go_wp2
                  go_round
                  case rel => exact ⟨i + 1, -9223372036854775800 - ((c.toNat : Int) - 48), by omega, by omega, by omega, by omega, by go_num, rfl, hg2⟩
                  case measure => simp [intOf]; omega
              · have hq : (v == -922337203685477580) = false := by rw [beq_eq_false_iff_ne]; exact he
                have hg2 := Lib.hid (show goNum 0 ((bts s).drop 1) = goNum (10 * v - ((c.toNat : Int) - 48)) ((bts s).drop (i + 1)) by rw [hg.out, hst.out, if_pos (by omega), if_neg (by omega)]; congr 1; omega)
                clear hg hst
                have hb1 : -9223372036854775800 < 10 * v := by omega
                have hb2 : 10 * v ≤ 0 := by omega
                go_wp2
                go_round
                case rel => exact ⟨i + 1, 10 * v - ((c.toNat : Int) - 48), by omega, by omega, by omega, by omega, by go_num, rfl, hg2⟩
                case measure => simp [intOf]; omega
      · have hie : i = s.size := by omega
        have hgv := Lib.hid (show goNum 0 ((bts s).drop 1) = some v by rw [hg.out, hie, ← bytes_len, List.drop_length]; rfl)
        clear hg hie
        have hn := Lib.hid (show num (bts s) = some v by rw [HN.out, hgv.out])
        go_wp2
        go_ret2
        exact NumIs.some hn.out (Below.refl _ _)
theorem r_Number_pos (s : ByteArray) (hs : s.size ≤ 200) (h : 0 < s.size) (hc : (s[0]'h).toNat ≠ 45) (w : World) : Calls Tryz.prog 56 #[.string s] w fun e w' => NumIs s w e w' := by
    have HN := Lib.hid (num_pos s h hc)
    have q : (((s[0]'h).toNat : Int) == 45) = false := by rw [beq_eq_false_iff_ne]; omega
    have q1 : ((0 : Int) == (s.size : Int)) = false := by rw [beq_eq_false_iff_ne]; omega
    clear hc
    go_enter Tryz.func56, Tryz.ntmps56
    go_wp2
    clear q q1
    go_loop [5, 6, 7] (fun vv iv dv => ∃ (i : Nat) (v : Int), 0 ≤ i ∧ i ≤ s.size ∧ -9223372036854775808 ≤ v ∧ v ≤ 0 ∧ iv = .int .i64 i ∧ vv = .int .i64 v ∧ Hid (goNum 0 ((bts s).drop 0) = goNum v ((bts s).drop i))) (fun _ iv _ => s.size - (intOf iv).toNat)
    case atStart => exact ⟨0, 0, by omega, by omega, by omega, by omega, rfl, rfl, rfl⟩
    case round =>
      obtain ⟨i, v, hi0, hi1, hv0, hv1, rfl, rfl, hg⟩ := hrel
      by_cases hlt : i < s.size
      · have hst := Lib.hid (goNum_at s i v hlt)
        have hcb := (s[i]'hlt).toNat_lt
        obtain ⟨c, hc⟩ : ∃ c, s[i]'hlt = c := ⟨_, rfl⟩
        rw [hc] at hst hcb
        by_cases hd0 : c.toNat < 48
        · have hn := Lib.hid (show num (bts s) = none by rw [HN.out, hg.out, hst.out, if_neg (by omega)])
          clear hg hst
          go_wp2
          go_ret2
          exact NumIs.none hn.out (Below.refl _ _)
        · by_cases hd1 : 57 < c.toNat
          · have hn := Lib.hid (show num (bts s) = none by rw [HN.out, hg.out, hst.out, if_neg (by omega)])
            clear hg hst
            go_wp2
            go_ret2
            exact NumIs.none hn.out (Below.refl _ _)
          · have hw : IntKind.u8.wrap ((c.toNat : Int) - 48) = (c.toNat : Int) - 48 := by
              unfold IntKind.wrap; simp [IntKind.signed, IntKind.bits]; omega
            by_cases ho : v < -922337203685477580
            · have hn := Lib.hid (show num (bts s) = none by rw [HN.out, hg.out, hst.out, if_pos (by omega), if_pos (by omega)])
              clear hg hst
              go_wp2
              go_ret2
              exact NumIs.none hn.out (Below.refl _ _)
            · by_cases he : v = -922337203685477580
              · subst he
                by_cases hd8 : 8 < (c.toNat : Int) - 48
                · have hn := Lib.hid (show num (bts s) = none by rw [HN.out, hg.out, hst.out, if_pos (by omega), if_pos (by omega)])
                  clear hg hst
                  go_wp2
                  go_ret2
                  exact NumIs.none hn.out (Below.refl _ _)
                · have hg2 := Lib.hid (show goNum 0 ((bts s).drop 0) = goNum (-9223372036854775800 - ((c.toNat : Int) - 48)) ((bts s).drop (i + 1)) by rw [hg.out, hst.out, if_pos (by omega), if_neg (by omega)]; congr 1; omega)
                  clear hg hst
                  go_wp2
                  go_round
                  case rel => exact ⟨i + 1, -9223372036854775800 - ((c.toNat : Int) - 48), by omega, by omega, by omega, by omega, by go_num, rfl, hg2⟩
                  case measure => simp [intOf]; omega
              · have hq : (v == -922337203685477580) = false := by rw [beq_eq_false_iff_ne]; exact he
                have hg2 := Lib.hid (show goNum 0 ((bts s).drop 0) = goNum (10 * v - ((c.toNat : Int) - 48)) ((bts s).drop (i + 1)) by rw [hg.out, hst.out, if_pos (by omega), if_neg (by omega)]; congr 1; omega)
                clear hg hst
                have hb1 : -9223372036854775800 < 10 * v := by omega
                have hb2 : 10 * v ≤ 0 := by omega
                go_wp2
                go_round
                case rel => exact ⟨i + 1, 10 * v - ((c.toNat : Int) - 48), by omega, by omega, by omega, by omega, by go_num, rfl, hg2⟩
                case measure => simp [intOf]; omega
      · have hie : i = s.size := by omega
        have hgv := Lib.hid (show goNum 0 ((bts s).drop 0) = some v by rw [hg.out, hie, ← bytes_len, List.drop_length]; rfl)
        clear hg hie
        by_cases hm : v = -9223372036854775808
        · subst hm
          have hn := Lib.hid (show num (bts s) = none by rw [HN.out, hgv.out]; rfl)
          go_wp2
          go_ret2
          exact NumIs.none hn.out (Below.refl _ _)
        · have hq : (v == -9223372036854775808) = false := by rw [beq_eq_false_iff_ne]; exact hm
          have hn := Lib.hid (show num (bts s) = some (-v) by rw [HN.out, hgv.out]; simp only; rw [if_neg hm])
          go_wp2
          go_ret2
          exact NumIs.some hn.out (Below.refl _ _)
theorem r_Number (s : ByteArray) (hs : s.size ≤ 200) (w : World) : Calls Tryz.prog 56 #[.string s] w fun e w' => NumIs s w e w' := by
  by_cases h0 : s.size = 0
  · have hn := Lib.hid (num_nil s h0)
    go_enter Tryz.func56, Tryz.ntmps56
    go_wp2
    go_ret2
    exact NumIs.none hn.out (Below.refl _ _)
  · have h : 0 < s.size := by omega
    by_cases hc : (s[0]'h).toNat = 45
    · by_cases h1 : 1 < s.size
      · exact r_Number_neg s hs h hc h1 w
      · have hs1 : s.size = 1 := by omega
        have hn := Lib.hid (num_one s hs1 hc)
        have q : (((s[0]'h).toNat : Int) == 45) = true := by simp [hc]
        clear hc
        go_enter Tryz.func56, Tryz.ntmps56
        go_wp2
        go_ret2
        exact NumIs.none hn.out (Below.refl _ _)
    · exact r_Number_pos s hs h hc w
end Go.Proofs.YtcplhochgngedaaGreatDoor.RefP
