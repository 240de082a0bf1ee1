/-
  Contracts of the reader of package code: a configuration.
-/
import Derived.Test.YtafidppjabdecaaCodeG
namespace Go.Proofs.Ytafidppjabdecaa.CodeK
open Go.ChangeShapes Go.WideShapes Go.ChangeAt Go.RowKit
open PlainT BlkW LawFrame CodeS CodeW CodeA CodeE CodeF CodeG
set_option linter.unusedVariables false
set_option maxHeartbeats 1000000

/-- The cells of a configuration of which the numbers xs have been read. -/
def bx (xs : List Int) (s : Bool) : Array Value := (((xs ++ List.replicate (12 - xs.length) 0).map (Value.int .i64)) ++ [Value.bool s]).toArray
theorem bx_set {xs : List Int} {s : Bool} (x : Int) (h : xs.length < 12) : (bx xs s).setIfInBounds xs.length (.int .i64 x) = bx (xs ++ [x]) s := by
  unfold bx
  rw [List.setIfInBounds_toArray]
  congr 1
  obtain ⟨m, hm⟩ : ∃ m, 12 - xs.length = m + 1 := ⟨11 - xs.length, by omega⟩
  rw [hm, show 12 - (xs ++ [x]).length = m by simp; omega, List.replicate_succ]
  simp only [List.map_append, List.map_cons, List.append_assoc, List.cons_append, List.nil_append, List.map_nil]
  rw [List.set_append_right _ _ (by simp)]
  simp
theorem bx_get {xs : List Int} {s : Bool} {i : Nat} (h1 : xs.length ≤ i) (h2 : i < 12) : (bx xs s)[i]? = some (.int .i64 0) := by
  unfold bx
  simp only [List.getElem?_toArray, List.map_append, List.append_assoc]
  rw [List.getElem?_append_right (by simpa using h1), List.getElem?_append_left (by simp; omega)]
  have e : i - xs.length < 12 - xs.length := by omega
  simp [e]
def rC (l : List Int) : Option ((List Int × Bool) × List Int) := (rN rS 12 l).bind fun c => (rF c.2).map fun f => ((c.1, f.1), f.2)
def CIs (B g : Nat) (w : World) (l : List Int) (e : Ending) (w' : World) : Prop :=
  Fr TR B w w' ∧ ((rC l = none ∧ Fails e) ∨ ∃ x0 x1 x2 x3 x4 x5 x6 x7 x8 x9 x10 x11 s l', rC l = some (([x0, x1, x2, x3, x4, x5, x6, x7, x8, x9, x10, x11], s), l') ∧
    e = .returned (.agg #[.int .i64 x0, .int .i64 x1, .int .i64 x2, .int .i64 x3, .int .i64 x4, .int .i64 x5, .int .i64 x6, .int .i64 x7, .int .i64 x8, .int .i64 x9, .int .i64 x10, .int .i64 x11, .bool s]) ∧ Rd B w' g l')
def KInv (B g : Nat) (w w3 : World) (l : List Int) (i : Value) (wr : World) : Prop :=
  ∃ (k : Nat) (xs : List Int) (l' : List Int), k ≤ 4 ∧ xs.length = 3 + k ∧ i = .int .i64 k ∧ Mem wr w3.heap.size 24 (bx xs false) ∧ Mem wr w.heap.size 24 (bx [] false) ∧ Part rS 12 l xs l' ∧ Rd B wr g l' ∧ Fr TR B w wr ∧ w3.heap.size < wr.heap.size
theorem rC_none1 {l : List Int} (h : rN rS 12 l = none) : rC l = none := by unfold rC; rw [h]; rfl
set_option maxHeartbeats 4000000 in
set_option maxRecDepth 100000 in
theorem a_rconfig (B g : Nat) (l : List Int) (w : World) (h : Rd B w g l) : Calls Try.prog 37 #[.pointer (some ⟨g, 0, none⟩)] w fun e w' => CIs B g w l e w' := by
  have hB := h.2.1
  have hgl : g < w.heap.size := by obtain ⟨_, _, _, _, _, _, hm, _⟩ := h; exact hm.lt
  have hsg : IntKind.i64.signed = true := rfl
  have r0 := h.alloc (.cells #[.int .i64 0, .int .i64 0, .int .i64 0, .int .i64 0, .int .i64 0, .int .i64 0, .int .i64 0, .int .i64 0, .int .i64 0, .int .i64 0, .int .i64 0, .int .i64 0, .bool false] 24)
  have F0 := Lib.hid (fr_newR hB (.cells #[.int .i64 0, .int .i64 0, .int .i64 0, .int .i64 0, .int .i64 0, .int .i64 0, .int .i64 0, .int .i64 0, .int .i64 0, .int .i64 0, .int .i64 0, .int .i64 0, .bool false] 24))
  have M0 : Hid (Mem (w.alloc (.cells #[.int .i64 0, .int .i64 0, .int .i64 0, .int .i64 0, .int .i64 0, .int .i64 0, .int .i64 0, .int .i64 0, .int .i64 0, .int .i64 0, .int .i64 0, .int .i64 0, .bool false] 24)) w.heap.size 24 (bx [] false)) := Mem.new w 24 _
  have P0 := Part.start (f := rS) 12 l
  go_enter Try.func37, Try.ntmps37
  go_wp2_with fail
  cases h0 : rS l with
  | none =>
    have HN := Lib.hid (rC_none1 (P0.no (by simp) h0))
    refine (s_no r0 h0).mono ?_
    rintro e w1 ⟨rfl, hf⟩
    exact ⟨rfl, F0.out.trans hf, .inl ⟨HN.out, rfl⟩⟩
  | some y =>
  obtain ⟨x0, l1⟩ := y
  have P1 := P0.step (by simp) h0
  refine (s_yes r0 h0).mono ?_
  rintro e w1 ⟨rfl, r1, hf1⟩
  have F1 := Lib.hid (F0.out.trans hf1)
  have M1 := Lib.hid (Mem.fr M0.out hf1 (by unfold TR; decide))
  clear h0 hf1 r0
  go_wp2_with fail
  cases h1 : rS l1 with
  | none =>
    have HN := Lib.hid (rC_none1 (P1.no (by simp) h1))
    refine (s_no r1 h1).mono ?_
    rintro e w2 ⟨rfl, hf⟩
    exact ⟨rfl, F1.out.trans hf, .inl ⟨HN.out, rfl⟩⟩
  | some y =>
  obtain ⟨x1, l2⟩ := y
  have P2 := P1.step (by simp) h1
  refine (s_yes r1 h1).mono ?_
  rintro e w2 ⟨rfl, r2, hf2⟩
  have F2 := Lib.hid (F1.out.trans hf2)
  have M2 := Lib.hid (Mem.fr M1.out hf2 (by unfold TR; decide))
  clear h1 hf2 r1
  go_wp2_with fail
  cases h2 : rS l2 with
  | none =>
    have HN := Lib.hid (rC_none1 (P2.no (by simp) h2))
    refine (s_no r2 h2).mono ?_
    rintro e w3 ⟨rfl, hf⟩
    exact ⟨rfl, F2.out.trans hf, .inl ⟨HN.out, rfl⟩⟩
  | some y =>
  obtain ⟨x2, l3⟩ := y
  have P3 := P2.step (by simp) h2
  refine (s_yes r2 h2).mono ?_
  rintro e w3 ⟨rfl, r3, hf3⟩
  have F3 := Lib.hid (F2.out.trans hf3)
  have M3 := Lib.hid (Mem.fr M2.out hf3 (by unfold TR; decide))
  clear h2 hf3 r2
  have hB3 : B ≤ w3.heap.size := r3.2.1
  have hz3 : w.heap.size < w3.heap.size := M3.out.lt
  have hM := Lib.hid (show Mem (w3.alloc (.cells #[.int .i64 x0, .int .i64 x1, .int .i64 x2, .int .i64 0, .int .i64 0, .int .i64 0, .int .i64 0, .int .i64 0, .int .i64 0, .int .i64 0, .int .i64 0, .int .i64 0, .bool false] 24)) w3.heap.size 24 (bx [x0, x1, x2] false) from Mem.new w3 24 _)
  have hM0 := Lib.hid (M3.out.alloc (.cells #[.int .i64 x0, .int .i64 x1, .int .i64 x2, .int .i64 0, .int .i64 0, .int .i64 0, .int .i64 0, .int .i64 0, .int .i64 0, .int .i64 0, .int .i64 0, .int .i64 0, .bool false] 24))
  have hR := Lib.hid (r3.alloc (.cells #[.int .i64 x0, .int .i64 x1, .int .i64 x2, .int .i64 0, .int .i64 0, .int .i64 0, .int .i64 0, .int .i64 0, .int .i64 0, .int .i64 0, .int .i64 0, .int .i64 0, .bool false] 24))
  have hF := Lib.hid (F3.out.alloc hB3 (.cells #[.int .i64 x0, .int .i64 x1, .int .i64 x2, .int .i64 0, .int .i64 0, .int .i64 0, .int .i64 0, .int .i64 0, .int .i64 0, .int .i64 0, .int .i64 0, .int .i64 0, .bool false] 24))
  have HP3 := Lib.hid P3
  clear r3 P0 P1 P2 P3 h
  go_wp2
  go_loopw [12] (fun i wr => KInv B g w w3 l i wr) (fun i _ => 4 - (intOf i).toNat)
  case atStart => exact ⟨0, [x0, x1, x2], l3, by omega, rfl, rfl, hM.out, hM0.out, HP3.out, hR.out, hF.out, by simp⟩
  case round =>
    obtain ⟨k, xs, l', hk, hxl, rfl, hm, hm0, hpart, hrd, hfr, hlt3⟩ := hrel
    have HP := Lib.hid hpart
    clear hpart
    by_cases hlt : k < 4
    · cases hs : rS l' with
      | none =>
        have HN := Lib.hid (rC_none1 (HP.out.no (by omega) hs))
        clear hm hm0
        go_wp2_with fail
        refine (s_no hrd hs).mono ?_
        rintro e w5 ⟨rfl, hf⟩
        exact ⟨rfl, hfr.trans hf, .inl ⟨HN.out, rfl⟩⟩
      | some y =>
        obtain ⟨x, l''⟩ := y
        have HP2 := Lib.hid (HP.out.step (by omega) hs)
        have HM := Lib.hid hm
        have HM0 := Lib.hid hm0
        clear hm hm0
        go_wp2_with fail
        refine (s_yes hrd hs).mono ?_
        rintro e w5 ⟨rfl, hr5, hf5⟩
        have hm5 := Mem.fr HM.out hf5 (by unfold TR; decide)
        have hm05 := Mem.fr HM0.out hf5 (by unfold TR; decide)
        have d5 : w5.cell? ⟨w3.heap.size, 3 + k, none⟩ = some (.int .i64 0) := (hm5.cell _).trans (bx_get (by omega) (by omega))
        have z5 := hm5.frozen (3 + k)
        have hm6 := Lib.hid (show Mem (w5.setCell ⟨w3.heap.size, 3 + k, none⟩ (.int .i64 x)) w3.heap.size 24 (bx (xs ++ [x]) false) by
          have := hm5.set_ (3 + k) (.int .i64 x)
          rw [← hxl, bx_set x (by omega), hxl] at this
          exact this)
        have hm06 := Lib.hid (hm05.far (a := ⟨w3.heap.size, 3 + k, none⟩) (by show w.heap.size ≠ w3.heap.size; omega) (.int .i64 x))
        have hr6 := Lib.hid (hr5.far (p := ⟨w3.heap.size, 3 + k, none⟩) (by show B ≤ w3.heap.size; omega) (by show g ≠ w3.heap.size; omega) (.int .i64 x))
        have hf6 := Lib.hid ((hfr.trans hf5).setNew (p := ⟨w3.heap.size, 3 + k, none⟩) hB (by show w.heap.size ≤ w3.heap.size; omega) (.int .i64 x))
        have hz5 := hf5.size
        clear hm5 hm05 hr5 hrd hs
        go_wp2
        go_roundw
        case rel => exact ⟨k + 1, xs ++ [x], l'', by omega, by simp; omega, by go_num, hm6.out, hm06.out, HP2.out, hr6.out, hf6.out, by simp [World.setCell]; omega⟩
        case measure => simp [intOf]; omega
    · obtain rfl : k = 4 := by omega
      match xs, hxl with
      | [x0, x1, x2, x3, x4, x5, x6], _ =>
      have P7 := HP.out
      have M7 := Lib.hid hm
      have N7 := Lib.hid hm0
      have F7 := Lib.hid hfr
      have r7 := hrd
      have S7 := Lib.hid hlt3
      clear hm hm0 hfr hrd hlt3 hlt hk HP
      go_wp2_with fail
      cases h7 : rS l' with
      | none =>
        have HN := Lib.hid (rC_none1 (P7.no (by simp) h7))
        refine (s_no r7 h7).mono ?_
        rintro e w8 ⟨rfl, hf⟩
        exact ⟨rfl, F7.out.trans hf, .inl ⟨HN.out, rfl⟩⟩
      | some y =>
      obtain ⟨x7, l8⟩ := y
      have P8 := P7.step (by simp) h7
      refine (s_yes r7 h7).mono ?_
      rintro e w8 ⟨rfl, r8, hf8⟩
      have F8 := Lib.hid (F7.out.trans hf8)
      have M8 := Lib.hid (Mem.fr M7.out hf8 (by unfold TR; decide))
      have N8 := Lib.hid (Mem.fr N7.out hf8 (by unfold TR; decide))
      have S8 := Lib.hid (Nat.lt_of_lt_of_le S7.out hf8.size)
      clear h7 hf8 r7
      go_wp2_with fail
      cases h8 : rS l8 with
      | none =>
        have HN := Lib.hid (rC_none1 (P8.no (by simp) h8))
        refine (s_no r8 h8).mono ?_
        rintro e w9 ⟨rfl, hf⟩
        exact ⟨rfl, F8.out.trans hf, .inl ⟨HN.out, rfl⟩⟩
      | some y =>
      obtain ⟨x8, l9⟩ := y
      have P9 := P8.step (by simp) h8
      refine (s_yes r8 h8).mono ?_
      rintro e w9 ⟨rfl, r9, hf9⟩
      have F9 := Lib.hid (F8.out.trans hf9)
      have M9 := Lib.hid (Mem.fr M8.out hf9 (by unfold TR; decide))
      have N9 := Lib.hid (Mem.fr N8.out hf9 (by unfold TR; decide))
      have S9 := Lib.hid (Nat.lt_of_lt_of_le S8.out hf9.size)
      clear h8 hf9 r8
      go_wp2_with fail
      cases h9 : rS l9 with
      | none =>
        have HN := Lib.hid (rC_none1 (P9.no (by simp) h9))
        refine (s_no r9 h9).mono ?_
        rintro e w10 ⟨rfl, hf⟩
        exact ⟨rfl, F9.out.trans hf, .inl ⟨HN.out, rfl⟩⟩
      | some y =>
      obtain ⟨x9, l10⟩ := y
      have P10 := P9.step (by simp) h9
      refine (s_yes r9 h9).mono ?_
      rintro e w10 ⟨rfl, r10, hf10⟩
      have F10 := Lib.hid (F9.out.trans hf10)
      have M10 := Lib.hid (Mem.fr M9.out hf10 (by unfold TR; decide))
      have N10 := Lib.hid (Mem.fr N9.out hf10 (by unfold TR; decide))
      have S10 := Lib.hid (Nat.lt_of_lt_of_le S9.out hf10.size)
      clear h9 hf10 r9
      go_wp2_with fail
      cases h10 : rS l10 with
      | none =>
        have HN := Lib.hid (rC_none1 (P10.no (by simp) h10))
        refine (s_no r10 h10).mono ?_
        rintro e w11 ⟨rfl, hf⟩
        exact ⟨rfl, F10.out.trans hf, .inl ⟨HN.out, rfl⟩⟩
      | some y =>
      obtain ⟨x10, l11⟩ := y
      have P11 := P10.step (by simp) h10
      refine (s_yes r10 h10).mono ?_
      rintro e w11 ⟨rfl, r11, hf11⟩
      have F11 := Lib.hid (F10.out.trans hf11)
      have M11 := Lib.hid (Mem.fr M10.out hf11 (by unfold TR; decide))
      have N11 := Lib.hid (Mem.fr N10.out hf11 (by unfold TR; decide))
      have S11 := Lib.hid (Nat.lt_of_lt_of_le S10.out hf11.size)
      clear h10 hf11 r10
      go_wp2_with fail
      cases h11 : rS l11 with
      | none =>
        have HN := Lib.hid (rC_none1 (P11.no (by simp) h11))
        refine (s_no r11 h11).mono ?_
        rintro e w12 ⟨rfl, hf⟩
        exact ⟨rfl, F11.out.trans hf, .inl ⟨HN.out, rfl⟩⟩
      | some y =>
      obtain ⟨x11, l12⟩ := y
      have P12 := P11.step (by simp) h11
      refine (s_yes r11 h11).mono ?_
      rintro e w12 ⟨rfl, r12, hf12⟩
      have F12 := Lib.hid (F11.out.trans hf12)
      have M12 := Lib.hid (Mem.fr M11.out hf12 (by unfold TR; decide))
      have N12 := Lib.hid (Mem.fr N11.out hf12 (by unfold TR; decide))
      have S12 := Lib.hid (Nat.lt_of_lt_of_le S11.out hf12.size)
      clear h11 hf12 r11
      have HP := Lib.hid (show rN rS 12 l = some ([x0, x1, x2, x3, x4, x5, x6, x7, x8, x9, x10, x11], l12) from P12.all rfl)
      clear P7 P8 P9 P10 P11 P12
      have z12 := M12.out.frozen
      have c7 : w12.cell? ⟨w3.heap.size, 7, none⟩ = some (.int .i64 0) := M12.out.cell 7
      have c8 : w12.cell? ⟨w3.heap.size, 8, none⟩ = some (.int .i64 0) := M12.out.cell 8
      have c9 : w12.cell? ⟨w3.heap.size, 9, none⟩ = some (.int .i64 0) := M12.out.cell 9
      have c10 : w12.cell? ⟨w3.heap.size, 10, none⟩ = some (.int .i64 0) := M12.out.cell 10
      have c11 : w12.cell? ⟨w3.heap.size, 11, none⟩ = some (.int .i64 0) := M12.out.cell 11
      have b7 := hB3
      have Y := Lib.hid (((((M12.out.set_ 7 (.int .i64 x7)).set_ 8 (.int .i64 x8)).set_ 9 (.int .i64 x9)).set_ 10 (.int .i64 x10)).set_ 11 (.int .i64 x11))
      have N := Lib.hid (((((N12.out.far (a := ⟨w3.heap.size, 7, none⟩) (by show w.heap.size ≠ w3.heap.size; omega) (.int .i64 x7)).far (a := ⟨w3.heap.size, 8, none⟩) (by show w.heap.size ≠ w3.heap.size; omega) (.int .i64 x8)).far (a := ⟨w3.heap.size, 9, none⟩) (by show w.heap.size ≠ w3.heap.size; omega) (.int .i64 x9)).far (a := ⟨w3.heap.size, 10, none⟩) (by show w.heap.size ≠ w3.heap.size; omega) (.int .i64 x10)).far (a := ⟨w3.heap.size, 11, none⟩) (by show w.heap.size ≠ w3.heap.size; omega) (.int .i64 x11))
      have R := Lib.hid (((((r12.far (p := ⟨w3.heap.size, 7, none⟩) (by show B ≤ w3.heap.size; omega) (by show g ≠ w3.heap.size; omega) (.int .i64 x7)).far (p := ⟨w3.heap.size, 8, none⟩) (by show B ≤ w3.heap.size; omega) (by show g ≠ w3.heap.size; omega) (.int .i64 x8)).far (p := ⟨w3.heap.size, 9, none⟩) (by show B ≤ w3.heap.size; omega) (by show g ≠ w3.heap.size; omega) (.int .i64 x9)).far (p := ⟨w3.heap.size, 10, none⟩) (by show B ≤ w3.heap.size; omega) (by show g ≠ w3.heap.size; omega) (.int .i64 x10)).far (p := ⟨w3.heap.size, 11, none⟩) (by show B ≤ w3.heap.size; omega) (by show g ≠ w3.heap.size; omega) (.int .i64 x11))
      have F := Lib.hid (((((F12.out.setNew (p := ⟨w3.heap.size, 7, none⟩) hB (by show w.heap.size ≤ w3.heap.size; omega) (.int .i64 x7)).setNew (p := ⟨w3.heap.size, 8, none⟩) hB (by show w.heap.size ≤ w3.heap.size; omega) (.int .i64 x8)).setNew (p := ⟨w3.heap.size, 9, none⟩) hB (by show w.heap.size ≤ w3.heap.size; omega) (.int .i64 x9)).setNew (p := ⟨w3.heap.size, 10, none⟩) hB (by show w.heap.size ≤ w3.heap.size; omega) (.int .i64 x10)).setNew (p := ⟨w3.heap.size, 11, none⟩) hB (by show w.heap.size ≤ w3.heap.size; omega) (.int .i64 x11))
      clear r12 b7
      go_wp2_with fail
      cases hq : rF l12 with
      | none =>
        have HN := Lib.hid (show rC l = none by unfold rC; rw [HP.out]; simp only [Option.bind_some]; rw [hq]; rfl)
        refine (f_no R.out hq).mono ?_
        rintro e w13 ⟨rfl, hf⟩
        exact ⟨rfl, F.out.trans hf, .inl ⟨HN.out, rfl⟩⟩
      | some y =>
      obtain ⟨s, l13⟩ := y
      have HC := Lib.hid (show rC l = some (([x0, x1, x2, x3, x4, x5, x6, x7, x8, x9, x10, x11], s), l13) by unfold rC; rw [HP.out]; simp only [Option.bind_some]; rw [hq]; rfl)
      refine (f_yes R.out hq).mono ?_
      rintro e w13 ⟨rfl, r13, hf13⟩
      have y13 : Mem w13 w3.heap.size 24 #[.int .i64 x0, .int .i64 x1, .int .i64 x2, .int .i64 x3, .int .i64 x4, .int .i64 x5, .int .i64 x6, .int .i64 x7, .int .i64 x8, .int .i64 x9, .int .i64 x10, .int .i64 x11, .bool false] := Mem.fr Y.out hf13 (by unfold TR; decide)
      have n13 := Mem.fr N.out hf13 (by unfold TR; decide)
      have F13 := Lib.hid (F.out.trans hf13)
      have z13 := y13.frozen
      have v13 := n13.frozen
      have d0 : w13.cell? ⟨w3.heap.size, 0, none⟩ = some (.int .i64 x0) := y13.cell 0
      have d1 : w13.cell? ⟨w3.heap.size, 1, none⟩ = some (.int .i64 x1) := y13.cell 1
      have d2 : w13.cell? ⟨w3.heap.size, 2, none⟩ = some (.int .i64 x2) := y13.cell 2
      have d3 : w13.cell? ⟨w3.heap.size, 3, none⟩ = some (.int .i64 x3) := y13.cell 3
      have d4 : w13.cell? ⟨w3.heap.size, 4, none⟩ = some (.int .i64 x4) := y13.cell 4
      have d5 : w13.cell? ⟨w3.heap.size, 5, none⟩ = some (.int .i64 x5) := y13.cell 5
      have d6 : w13.cell? ⟨w3.heap.size, 6, none⟩ = some (.int .i64 x6) := y13.cell 6
      have d7 : w13.cell? ⟨w3.heap.size, 7, none⟩ = some (.int .i64 x7) := y13.cell 7
      have d8 : w13.cell? ⟨w3.heap.size, 8, none⟩ = some (.int .i64 x8) := y13.cell 8
      have d9 : w13.cell? ⟨w3.heap.size, 9, none⟩ = some (.int .i64 x9) := y13.cell 9
      have d10 : w13.cell? ⟨w3.heap.size, 10, none⟩ = some (.int .i64 x10) := y13.cell 10
      have d11 : w13.cell? ⟨w3.heap.size, 11, none⟩ = some (.int .i64 x11) := y13.cell 11
      have d12 : w13.cell? ⟨w3.heap.size, 12, none⟩ = some (.bool false) := y13.cell 12
      have o0 : w13.cell? ⟨w.heap.size, 0, none⟩ = some (.int .i64 0) := n13.cell 0
      have o1 : w13.cell? ⟨w.heap.size, 1, none⟩ = some (.int .i64 0) := n13.cell 1
      have o2 : w13.cell? ⟨w.heap.size, 2, none⟩ = some (.int .i64 0) := n13.cell 2
      have o3 : w13.cell? ⟨w.heap.size, 3, none⟩ = some (.int .i64 0) := n13.cell 3
      have o4 : w13.cell? ⟨w.heap.size, 4, none⟩ = some (.int .i64 0) := n13.cell 4
      have o5 : w13.cell? ⟨w.heap.size, 5, none⟩ = some (.int .i64 0) := n13.cell 5
      have o6 : w13.cell? ⟨w.heap.size, 6, none⟩ = some (.int .i64 0) := n13.cell 6
      have o7 : w13.cell? ⟨w.heap.size, 7, none⟩ = some (.int .i64 0) := n13.cell 7
      have o8 : w13.cell? ⟨w.heap.size, 8, none⟩ = some (.int .i64 0) := n13.cell 8
      have o9 : w13.cell? ⟨w.heap.size, 9, none⟩ = some (.int .i64 0) := n13.cell 9
      have o10 : w13.cell? ⟨w.heap.size, 10, none⟩ = some (.int .i64 0) := n13.cell 10
      have o11 : w13.cell? ⟨w.heap.size, 11, none⟩ = some (.int .i64 0) := n13.cell 11
      have o12 : w13.cell? ⟨w.heap.size, 12, none⟩ = some (.bool false) := n13.cell 12
      have Y13 := Lib.hid y13
      have N13 := Lib.hid n13
      have R13 := Lib.hid r13
      clear y13 n13 r13 hf13 hq c7 c8 c9 c10 c11 z12 HP Y N R F
      clear M7 N7 F7 S7 M8 N8 F8 S8 M9 N9 F9 S9 M10 N10 F10 S10 M11 N11 F11 S11 M12 N12 F12 S12 M0 F0 M1 F1 M2 F2 M3 F3 hM hM0 hR hF HP3
      go_wp2_with fail
      refine bodyPost_ret (v := .agg #[.int .i64 x0, .int .i64 x1, .int .i64 x2, .int .i64 x3, .int .i64 x4, .int .i64 x5, .int .i64 x6, .int .i64 x7, .int .i64 x8, .int .i64 x9, .int .i64 x10, .int .i64 x11, .bool s]) ?_ rfl ⟨((((((((((((((F13.out.setNew (p := ⟨w3.heap.size, 12, none⟩) hB (by show w.heap.size ≤ w3.heap.size; omega) (.bool s)).setNew (p := ⟨w.heap.size, 0, none⟩) hB (Nat.le_refl _) (.int .i64 x0)).setNew (p := ⟨w.heap.size, 1, none⟩) hB (Nat.le_refl _) (.int .i64 x1)).setNew (p := ⟨w.heap.size, 2, none⟩) hB (Nat.le_refl _) (.int .i64 x2)).setNew (p := ⟨w.heap.size, 3, none⟩) hB (Nat.le_refl _) (.int .i64 x3)).setNew (p := ⟨w.heap.size, 4, none⟩) hB (Nat.le_refl _) (.int .i64 x4)).setNew (p := ⟨w.heap.size, 5, none⟩) hB (Nat.le_refl _) (.int .i64 x5)).setNew (p := ⟨w.heap.size, 6, none⟩) hB (Nat.le_refl _) (.int .i64 x6)).setNew (p := ⟨w.heap.size, 7, none⟩) hB (Nat.le_refl _) (.int .i64 x7)).setNew (p := ⟨w.heap.size, 8, none⟩) hB (Nat.le_refl _) (.int .i64 x8)).setNew (p := ⟨w.heap.size, 9, none⟩) hB (Nat.le_refl _) (.int .i64 x9)).setNew (p := ⟨w.heap.size, 10, none⟩) hB (Nat.le_refl _) (.int .i64 x10)).setNew (p := ⟨w.heap.size, 11, none⟩) hB (Nat.le_refl _) (.int .i64 x11)).setNew (p := ⟨w.heap.size, 12, none⟩) hB (Nat.le_refl _) (.bool s)), .inr ⟨_, _, _, _, _, _, _, _, _, _, _, _, _, _, HC.out, rfl, ((((((((((((((R13.out.far (p := ⟨w3.heap.size, 12, none⟩) (by show B ≤ w3.heap.size; omega) (by show g ≠ w3.heap.size; omega) (.bool s)).far (p := ⟨w.heap.size, 0, none⟩) hB (by show g ≠ w.heap.size; omega) (.int .i64 x0)).far (p := ⟨w.heap.size, 1, none⟩) hB (by show g ≠ w.heap.size; omega) (.int .i64 x1)).far (p := ⟨w.heap.size, 2, none⟩) hB (by show g ≠ w.heap.size; omega) (.int .i64 x2)).far (p := ⟨w.heap.size, 3, none⟩) hB (by show g ≠ w.heap.size; omega) (.int .i64 x3)).far (p := ⟨w.heap.size, 4, none⟩) hB (by show g ≠ w.heap.size; omega) (.int .i64 x4)).far (p := ⟨w.heap.size, 5, none⟩) hB (by show g ≠ w.heap.size; omega) (.int .i64 x5)).far (p := ⟨w.heap.size, 6, none⟩) hB (by show g ≠ w.heap.size; omega) (.int .i64 x6)).far (p := ⟨w.heap.size, 7, none⟩) hB (by show g ≠ w.heap.size; omega) (.int .i64 x7)).far (p := ⟨w.heap.size, 8, none⟩) hB (by show g ≠ w.heap.size; omega) (.int .i64 x8)).far (p := ⟨w.heap.size, 9, none⟩) hB (by show g ≠ w.heap.size; omega) (.int .i64 x9)).far (p := ⟨w.heap.size, 10, none⟩) hB (by show g ≠ w.heap.size; omega) (.int .i64 x10)).far (p := ⟨w.heap.size, 11, none⟩) hB (by show g ≠ w.heap.size; omega) (.int .i64 x11)).far (p := ⟨w.heap.size, 12, none⟩) hB (by show g ≠ w.heap.size; omega) (.bool s))⟩⟩
      have Y := ((((((((((((((N13.out.far (a := ⟨w3.heap.size, 12, none⟩) (by show w.heap.size ≠ w3.heap.size; omega) (.bool s)).set_ 0 (.int .i64 x0)).set_ 1 (.int .i64 x1)).set_ 2 (.int .i64 x2)).set_ 3 (.int .i64 x3)).set_ 4 (.int .i64 x4)).set_ 5 (.int .i64 x5)).set_ 6 (.int .i64 x6)).set_ 7 (.int .i64 x7)).set_ 8 (.int .i64 x8)).set_ 9 (.int .i64 x9)).set_ 10 (.int .i64 x10)).set_ 11 (.int .i64 x11)).set_ 12 (.bool s))
      have y0 := Y.cell 0
      have y1 := Y.cell 1
      have y2 := Y.cell 2
      have y3 := Y.cell 3
      have y4 := Y.cell 4
      have y5 := Y.cell 5
      have y6 := Y.cell 6
      have y7 := Y.cell 7
      have y8 := Y.cell 8
      have y9 := Y.cell 9
      have y10 := Y.cell 10
      have y11 := Y.cell 11
      have y12 := Y.cell 12
      simp [bx] at y0 y1 y2 y3 y4 y5 y6 y7 y8 y9 y10 y11 y12
      simp [results, Try.results37, go_sem, y0, y1, y2, y3, y4, y5, y6, y7, y8, y9, y10, y11, y12]
end Go.Proofs.Ytafidppjabdecaa.CodeK
