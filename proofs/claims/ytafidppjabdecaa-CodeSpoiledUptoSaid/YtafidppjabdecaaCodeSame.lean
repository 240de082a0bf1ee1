/-
  Equal byte lists; the reference's numbers as bytes.
-/
import Derived.Test.YtafidppjabdecaaCodeA
import Derived.Laws.BytesArg
import Derived.Lib.SlBytesConst
namespace Go.Proofs.Ytafidppjabdecaa.CodeSame
open Go.ChangeShapes Go.WideShapes Go.ChangeAt Go.RowKit
open PlainT BlkW LawFrame CodeS CodeW CodeA
set_option linter.unusedVariables false
set_option maxHeartbeats 1000000

/-! ### Equal bytes. -/
theorem conv_none {w : World} {A : Option Addr} {c : Nat} : (convert 31 9 (.slice A 0 c)).run Try.prog w = .ok (.string ByteArray.empty) w := by
  cases A with
  | none => exact run_convert_bytes_nil w _ _ Try.underlying31 Try.underlying5 0 c _ Try.underlying9
  | some a =>
    rw [run_convert_bytes_string w _ _ _ a 0 c Try.underlying31 Try.underlying5 Try.underlying9]
    exact run_bytesToString w a 0 c [] (by simp [loadCells, loadCellsFrom])
theorem conv_str {w : World} {A : Option Addr} {n c : Nat} {l : List Int} (h : Ints .u8 w A n l) : ∃ s : ByteArray, (n = 0 → s = ByteArray.empty) ∧ (0 < n → s = strOfNums l) ∧ (convert 31 9 (.slice A n c)).run Try.prog w = .ok (.string s) w := by
  rcases Nat.eq_zero_or_pos n with rfl | hn
  · exact ⟨_, fun _ => rfl, fun h => absurd h (by omega), conv_none⟩
  · obtain ⟨b, off, rfl, hb, hc⟩ := h.2.2 hn
    exact ⟨strOfNums l, fun h0 => by omega, fun _ => rfl, run_convert_bytes_arg w _ _ Try.underlying31 Try.underlying5 b off n c l h.1 hc _ Try.underlying9⟩
theorem a_same (A A' : Option Addr) (n c c' : Nat) (l : List Int) (w : World) (h1 : Ints .u8 w A n l) (h2 : Ints .u8 w A' n l) : Calls Try.prog 12 #[.slice A n c, .slice A' n c'] w fun e w' => e = .returned (.bool true) ∧ w = w' := by
  obtain ⟨s, p1, p2, p3⟩ := conv_str (c := c) h1
  obtain ⟨s', q1, q2, q3⟩ := conv_str (c := c') h2
  obtain rfl : s = s' := by
    rcases Nat.eq_zero_or_pos n with h | h
    · rw [p1 h, q1 h]
    · rw [p2 h, q2 h]
  clear p1 p2 q1 q2 h1 h2
  go_enter Try.func12, Try.ntmps12
  go_wp2
  go_ret
  exact ⟨ret_bool (by simp), rfl⟩

/-! ### The reference's numbers. -/
/-- The type of the blocks that the reference's writer writes to. -/
def TB : List Nat := [5]
/-- append of one byte to a row of bytes, and what stays. -/
theorem push1 {B : Nat} {w : World} {v : Value} {xs : List Int} (h : Rw B w v xs) (hB : B ≤ w.heap.size) (hl : xs.length ≤ 1000000000000) (x : Int) :
    ∃ A n c A' n' c' w', v = .slice A n c ∧ (Builtin.append_ #[31, 31] 31 #[.slice A n c, .slice (some ⟨w.heap.size, 0, none⟩) 1 1]).run Try.prog (w.alloc (.cells #[.int .u8 x] 5)) = .ok (.slice A' n' c') w' ∧
      Rw B w' (.slice A' n' c') (xs ++ [x]) ∧ Fr TB B w w' ∧ B ≤ w'.heap.size := by
  have hws : (w.alloc (.cells #[.int .u8 x] 5)).heap.size = w.heap.size + 1 := size_new _ _
  have hown1 := h.old ((Old.refl w).alloc (.cells #[.int .u8 x] 5))
  obtain ⟨v', w', hrun, hown', hgr⟩ := rw_append hown1 (by rw [hws]; omega) ⟨w.heap.size, 0, none⟩ 1 1 [x] rfl (by omega) (cell_lit (W := w) (T := 5) (l := bC [x])) (by omega)
  obtain ⟨A', c', rfl, _⟩ := hown'.slice
  obtain ⟨A, c, rfl, _⟩ := h.slice
  refine ⟨_, _, _, _, _, _, w', rfl, hrun, hown', ?_, by have := hgr.size; omega⟩
  refine Fr.grown ((Fr.refl TB B w).alloc hB _) hgr (by rw [hws]; omega) (fun k hk => ?_)
  obtain ⟨h1, cs, t, fr, h2, h3⟩ := hown1.row k hk
  exact ⟨h1, cs, t, fr, h2, by subst h3; unfold TB; simp⟩
def BIs (B : Nat) (w : World) (xs : List Int) (e : Ending) (w' : World) : Prop := (∃ A c, e = .returned (.slice A xs.length c) ∧ Rw B w' (.slice A xs.length c) xs) ∧ Fr TB B w w' ∧ B ≤ w'.heap.size
def VInv (B : Nat) (w : World) (tot : List Int) (v u : Value) (wr : World) : Prop := ∃ (x : Int) (ys : List Int), 0 ≤ x ∧ x ≤ 18446744073709551615 ∧ u = .int .u64 x ∧ Rw B wr v ys ∧ ys ++ uB x = tot ∧ Fr TB B w wr ∧ B ≤ wr.heap.size
set_option maxHeartbeats 2000000 in
set_option maxRecDepth 100000 in
theorem r_unsigned (B : Nat) (v : Value) (xs : List Int) (x : Int) (w : World) (h : Rw B w v xs) (hB : B ≤ w.heap.size) (hx : InU x) (hl : xs.length ≤ 900000000000) (tot : List Int) (ht : xs ++ uB x = tot) :
    Calls Try.prog 34 #[v, .int .u64 x] w fun e w' => BIs B w tot e w' := by
  have hten := uB_ten hx
  have htl : tot.length ≤ 900000000010 := by
    rw [← ht, List.length_append]
    omega
  have hs0 : IntKind.i64.signed = true := rfl
  have HT := Lib.hid ht
  obtain ⟨h0, h1⟩ := hx
  clear ht
  go_enter Try.func34, Try.ntmps34
  go_wp2
  go_loopw [0, 1] (fun v u wr => VInv B w tot v u wr) (fun _ u _ => (intOf u).toNat)
  case atStart => exact ⟨x, xs, h0, h1, rfl, h, HT.out, Fr.refl _ _ _, hB⟩
  case round =>
    obtain ⟨u, ys, hu0, hu1, rfl, hwy, htot, hfy, hBr⟩ := hrel
    have HTT := Lib.hid htot
    have hyl : ys.length ≤ 900000000010 := by
      have := congrArg List.length htot
      simp only [List.length_append] at this
      omega
    clear htot
    by_cases h128 : 128 ≤ u
    · obtain ⟨A, n, c, A', n', c', w2, rfl, hrun, hrw2, hfr2, hB2⟩ := push1 hwy hBr (by omega) (u % 128 + 128)
      have HR := Lib.hid hrun
      have HS := Lib.hid (show ys ++ [u % 128 + 128] ++ uB (u / 128) = tot by rw [← HTT.out, uB_big h128]; simp)
      clear hrun hwy
      go_wp2_with (at_builtin; refine wpList_append_run rfl _ _ _ rfl HR.out (by rfl) (by rfl) ?_)
      go_roundw
      case rel => exact ⟨u / 128, _, by omega, by omega, rfl, hrw2, HS.out, hfy.trans hfr2, hB2⟩
      case measure => simp [intOf]; omega
    · obtain ⟨A, n, c, A', n', c', w2, rfl, hrun, hrw2, hfr2, hB2⟩ := push1 hwy hBr (by omega) u
      have HR := Lib.hid hrun
      have HS := Lib.hid (show ys ++ [u] = tot by rw [← HTT.out, uB_small (by omega)])
      clear hrun hwy
      go_wp2_with (at_builtin; refine wpList_append_run rfl _ _ _ rfl HR.out (by rfl) (by rfl) ?_)
      go_ret
      have e := HS.out
      subst e
      obtain ⟨A2, c2, e, _⟩ := hrw2.slice
      injection e with e1 e2 e3
      subst e1 e2 e3
      exact ⟨⟨_, _, rfl, hrw2⟩, hfy.trans hfr2, hB2⟩
theorem r_signed (B : Nat) (v : Value) (xs : List Int) (x : Int) (w : World) (h : Rw B w v xs) (hB : B ≤ w.heap.size) (hx : InI x) (hl : xs.length ≤ 900000000000) (tot : List Int) (ht : xs ++ sB x = tot) :
    Calls Try.prog 33 #[v, .int .i64 x] w fun e w' => BIs B w tot e w' := by
  have hF := sF_in hx
  have hs0 : IntKind.i64.signed = true := rfl
  unfold sB at ht
  unfold InI at hx
  obtain ⟨h0, h1⟩ := hx
  obtain ⟨A, c, rfl, _⟩ := h.slice
  by_cases hn : 0 ≤ x
  · have e : sF x = 2 * x := by unfold sF; rw [if_neg (by omega)]
    rw [e] at hF ht
    have HT := Lib.hid ht
    clear e ht
    go_enter Try.func33, Try.ntmps33
    go_wp2_with fail
    refine (r_unsigned B _ xs (2 * x) _ h hB hF hl tot HT.out).mono ?_
    rintro e w1 ⟨⟨A1, c1, rfl, h2⟩, hf, hb⟩
    go_wp2
    go_ret
    exact ⟨⟨_, _, rfl, h2⟩, hf, hb⟩
  · obtain ⟨m, hm⟩ : ∃ m, -(x + 1) = m := ⟨_, rfl⟩
    have e : sF x = 2 * m + 1 := by unfold sF; rw [if_pos (by omega)]; omega
    rw [e] at hF ht
    have HT := Lib.hid ht
    have b1 : 0 ≤ m := by omega
    have b2 : m ≤ 9223372036854775807 := by omega
    have b3 : x < 0 := by omega
    clear e ht
    go_enter Try.func33, Try.ntmps33
    go_wp2_with fail
    refine (r_unsigned B _ xs (2 * m + 1) _ h hB hF hl tot HT.out).mono ?_
    rintro e w1 ⟨⟨A1, c1, rfl, h2⟩, hf, hb⟩
    go_wp2
    go_ret
    exact ⟨⟨_, _, rfl, h2⟩, hf, hb⟩
end Go.Proofs.Ytafidppjabdecaa.CodeSame
