/-
  Contracts of the functions of package asm that read one line (isLetter, isName, label, namedJump, instruction).
-/
import Derived.Test.YtcplhochgngedaaGreatDoorAsmS
import Derived.Test.YtcplhochgngedaaGreatDoorIsaL
namespace Go.Proofs.YtcplhochgngedaaGreatDoor.AsmA
open Go.ChangeShapes Go.WideShapes Go.ChangeAt Go.RowKit
open PlainT IsaE IsaS BlkW IsaA IsaB IsaF IsaP IsaQ IsaX IsaL AsmS
set_option linter.unusedVariables false
set_option maxHeartbeats 1000000

/-- The variables that layer 4 reads: those of layer 3, and one of the library's that holds some number. -/
structure EnvM (w : World) : Prop where
  env : Env w
  maxlen : ∃ m, Var w 1 #[.int .i64 m]
theorem EnvM.old {w w' : World} (h : EnvM w) (k : Old w w') : EnvM w' := ⟨h.env.old k, (by obtain ⟨m, x⟩ := h.maxlen; exact ⟨m, x.old k⟩)⟩
theorem EnvM.below {w w' : World} (h : EnvM w) (k : Below w.heap.size w w') : EnvM w' := h.old (.of_below k)
theorem EnvM.alloc {w : World} (h : EnvM w) (o : Obj) : EnvM (w.alloc o) := h.old ((Old.refl w).alloc o)
theorem EnvM.drewN {w : World} (h : EnvM w) (n : Nat) : EnvM (w.drewN n) := h.old ((Old.refl w).drewN n)
theorem EnvM.cell {w : World} (h : EnvM w) : ∃ m, w.cell? ⟨1, 0, none⟩ = some (.int .i64 m) := by
  obtain ⟨m, x⟩ := h.maxlen
  exact ⟨m, x.cell 0⟩

/-! ### Names. -/
theorem a_isLetter (c : UInt8) (v : Bool) (hv : letterB c = v) (w : World) : Calls Tryz.prog 105 #[.int .u8 (c.toNat : Int)] w fun e w' => e = .returned (.bool v) ∧ w = w' := by
  subst hv
  by_cases h1 : 97 ≤ c.toNat
  · by_cases h2 : c.toNat ≤ 122
    · have HV := Lib.hid (show letterB c = true by unfold letterB; simpa using ⟨h1, h2⟩)
      go_enter Tryz.func105, Tryz.ntmps105
      go_wp2
      go_ret
      exact ⟨by rw [HV.out]; simp; omega, rfl⟩
    · have HV := Lib.hid (show letterB c = false by unfold letterB; simp; omega)
      go_enter Tryz.func105, Tryz.ntmps105
      go_wp2
      go_ret
      exact ⟨by rw [HV.out]; simp; omega, rfl⟩
  · have HV := Lib.hid (show letterB c = false by unfold letterB; simp; omega)
    go_enter Tryz.func105, Tryz.ntmps105
    go_wp2
    go_ret
    exact ⟨by rw [HV.out]; first | rfl | (simp; omega), rfl⟩
theorem name_nil : isName [] = false := rfl
theorem name_long {l : List UInt8} (h : 20 < l.length) : isName l = false := by
  unfold isName
  rw [decide_eq_false (by omega)]; rfl
theorem bts_cons (s : ByteArray) (h : 0 < s.size) : bts s = s[0] :: (bts s).drop 1 := by
  have := List.drop_eq_getElem_cons (l := bts s) (i := 0) (by rw [bytes_len]; exact h)
  rw [List.drop_zero] at this
  exact this
theorem name_first (s : ByteArray) (h : 0 < s.size) (hl : letterB (s[0]'h) = false) : isName (bts s) = false := by
  rw [bts_cons s h]
  unfold isName
  simp only
  rw [hl]
  simp
theorem name_of (s : ByteArray) (h : 0 < s.size) (h20 : s.size ≤ 20) (hl : letterB (s[0]'h) = true) : isName (bts s) = ((bts s).drop 1).all nameC := by
  have e := bts_cons s h
  have hlen := bytes_len s
  generalize (bts s).drop 1 = r at *
  rw [e] at hlen ⊢
  unfold isName
  rw [decide_eq_true (by omega), Bool.true_and]
  simp only
  rw [hl, Bool.true_and]
theorem nameC_first {c : UInt8} (h : letterB c = true) : nameC c = true := by unfold nameC; rw [h]; rfl
theorem all_step (s : ByteArray) (i : Nat) (h : i < s.size) : ((bts s).drop i).all nameC = (nameC (s[i]'h) && ((bts s).drop (i + 1)).all nameC) := by
  rw [List.drop_eq_getElem_cons (by rw [bytes_len]; exact h), List.all_cons]
  rfl
theorem nameC_yes {c : UInt8} (h : nameC c = true) (hl : letterB c = false) : c.toNat = 95 ∨ c.toNat ≠ 95 ∧ 48 ≤ c.toNat ∧ c.toNat ≤ 57 := by
  unfold nameC at h
  rw [hl, Bool.false_or] at h
  simp only [Bool.or_eq_true, decide_eq_true_eq] at h
  omega
theorem nameC_no {c : UInt8} (h : nameC c = false) : letterB c = false ∧ c.toNat ≠ 95 ∧ (c.toNat < 48 ∨ 48 ≤ c.toNat ∧ 57 < c.toNat) := by
  unfold nameC at h
  simp only [Bool.or_eq_false_iff, decide_eq_false_iff_not] at h
  refine ⟨h.1, h.2.1, ?_⟩
  omega
set_option maxHeartbeats 2000000 in
set_option maxRecDepth 100000 in
theorem a_isName (s : ByteArray) (v : Bool) (hv : isName (bts s) = v) (hs : s.size ≤ 100000) (w : World) : Calls Tryz.prog 85 #[.string s] w fun e w' => e = .returned (.bool v) ∧ w = w' := by
  have HV := Lib.hid hv
  clear hv
  by_cases h0 : s.size = 0
  · have he : s = ⟨#[]⟩ := bytes_inj (List.eq_nil_of_length_eq_zero (by rw [bytes_len]; exact h0))
    subst he
    have hf := Lib.hid (show v = false from HV.out.symm)
    go_enter Tryz.func85, Tryz.ntmps85
    go_wp2
    go_ret
    exact ⟨by rw [hf.out]; rfl, rfl⟩
  · have h : 0 < s.size := by omega
    have hne := str_ne (a := s) (b := ⟨#[]⟩) (fun e => by
      have := congrArg List.length e
      rw [bytes_len] at this
      exact h0 this)
    have hne2 : s.toList.isEmpty = false := by
      rw [ByteArray.toList_eq]
      cases hl : s.data.toList with
      | nil => exact absurd (show s.size = 0 by rw [← bytes_len]; show s.data.toList.length = 0; rw [hl]; rfl) h0
      | cons _ _ => rfl
    by_cases h20 : s.size ≤ 20
    · cases hl : letterB (s[0]'h) with
      | false =>
        have hf := Lib.hid (show v = false by rw [← HV.out]; exact name_first s h hl)
        have HL := Lib.hid hl
        clear hl
        go_enter Tryz.func85, Tryz.ntmps85
        go_wp2_with (go_at_call 105; refine (a_isLetter _ _ HL.out _).mono ?_; rintro e w1 ⟨rfl, rfl⟩)
        go_ret
        exact ⟨by rw [hf.out]; rfl, rfl⟩
      | true =>
        have hn := Lib.hid (show ((bts s).drop 1).all nameC = v by rw [← HV.out]; exact (name_of s h h20 hl).symm)
        have hn0 := Lib.hid (show ((bts s).drop 0).all nameC = v by rw [all_step s 0 h, nameC_first hl, Bool.true_and]; exact hn.out)
        have HL := Lib.hid hl
        clear hl hn
        go_enter Tryz.func85, Tryz.ntmps85
        go_wp2_with (go_at_call 105; refine (a_isLetter _ _ HL.out _).mono ?_; rintro e w1 ⟨rfl, rfl⟩)
        clear hne hne2
        go_loop [20] (fun iv => ∃ k : Nat, k ≤ s.size ∧ iv = .int .i64 k ∧ Hid (((bts s).drop k).all nameC = v)) (fun iv => s.size - (intOf iv).toNat)
        case atStart => exact ⟨0, by omega, rfl, hn0⟩
        case round =>
          obtain ⟨k, hk, rfl, hr⟩ := hrel
          by_cases hlt : k < s.size
          · have hst := Lib.hid (all_step s k hlt)
            obtain ⟨c, hc⟩ : ∃ c, s[k]'hlt = c := ⟨_, rfl⟩
            rw [hc] at hst
            have hcb := c.toNat_lt
            cases hnc : nameC c with
            | false =>
              have hf := Lib.hid (show v = false by rw [← hr.out, hst.out, hnc]; rfl)
              obtain ⟨h1, h2, h3⟩ := nameC_no hnc
              have H1 := Lib.hid h1
              have q : ((c.toNat : Int) != 95) = true := by rw [bne_iff_ne]; omega
              clear hnc h1 hr hst h2
              rcases h3 with h3 | ⟨h3, h4⟩
              all_goals
                go_wp2_with (go_at_call 105; refine (a_isLetter _ _ H1.out _).mono ?_; rintro e w1 ⟨rfl, rfl⟩)
                go_ret
                exact ⟨by rw [hf.out]; rfl, rfl⟩
            | true =>
              have hr2 := Lib.hid (show ((bts s).drop (k + 1)).all nameC = v by rw [← hr.out, hst.out, hnc, Bool.true_and])
              clear hr hst
              cases hl : letterB c with
              | true =>
                have H1 := Lib.hid hl
                clear hl hnc
                go_wp2_with (go_at_call 105; refine (a_isLetter _ _ H1.out _).mono ?_; rintro e w1 ⟨rfl, rfl⟩)
                go_round
                case rel => exact ⟨k + 1, by omega, by go_num, hr2⟩
                case measure => simp [intOf]; omega
              | false =>
                have H1 := Lib.hid hl
                rcases nameC_yes hnc hl with h2 | ⟨h2, h3, h4⟩
                · have q : ((c.toNat : Int) != 95) = false := by rw [bne_eq_false_iff_eq]; omega
                  clear hl hnc h2
                  go_wp2_with (go_at_call 105; refine (a_isLetter _ _ H1.out _).mono ?_; rintro e w1 ⟨rfl, rfl⟩)
                  go_round
                  case rel => exact ⟨k + 1, by omega, by go_num, hr2⟩
                  case measure => simp [intOf]; omega
                · have q : ((c.toNat : Int) != 95) = true := by rw [bne_iff_ne]; omega
                  clear hl hnc h2
                  go_wp2_with (go_at_call 105; refine (a_isLetter _ _ H1.out _).mono ?_; rintro e w1 ⟨rfl, rfl⟩)
                  go_round
                  case rel => exact ⟨k + 1, by omega, by go_num, hr2⟩
                  case measure => simp [intOf]; omega
          · have hie : k = s.size := by omega
            have hf := Lib.hid (show v = true by rw [← hr.out, hie, ← bytes_len, List.drop_length]; rfl)
            clear hr hie
            go_wp2
            go_ret
            exact ⟨by rw [hf.out]; rfl, rfl⟩
    · have hf := Lib.hid (show v = false by rw [← HV.out]; exact name_long (by rw [bytes_len]; omega))
      go_enter Tryz.func85, Tryz.ntmps85
      go_wp2
      go_ret
      exact ⟨by rw [hf.out]; rfl, rfl⟩
end Go.Proofs.YtcplhochgngedaaGreatDoor.AsmA
