/-
  Contracts of the writer of package code: a program, a script.
-/
import Derived.Test.YtafidppjabdecaaCodeB
namespace Go.Proofs.Ytafidppjabdecaa.CodeC
open Go.ChangeShapes Go.WideShapes Go.ChangeAt Go.RowKit
open PlainT BlkW LawFrame CodeS CodeW CodeA CodeB
set_option linter.unusedVariables false
set_option maxHeartbeats 1000000

theorem fm_le {α : Type} (f : α → List Int) (sp : List Int) (z : List α) (k : Nat) : (sp ++ (z.take k).flatMap f).length ≤ (sp ++ z.flatMap f).length := by
  have e : z = z.take k ++ z.drop k := (List.take_append_drop k z).symm
  conv => rhs; rw [e]
  rw [List.flatMap_append]
  simp only [List.length_append]
  omega
theorem take_flat {α : Type} (f : α → List Int) (z : List α) (k : Nat) {x : α} (h : z[k]? = some x) : (z.take (k + 1)).flatMap f = (z.take k).flatMap f ++ f x := by
  rw [List.take_add_one, h, List.flatMap_append]
  simp
def PInv (B g : Nat) (w : World) (sp : List Int) (p : List (List Int)) (n : Nat) (i : Value) (wr : World) : Prop := ∃ k : Nat, k ≤ n ∧ i = .int .i64 k ∧ WS B wr g (sp ++ (p.take k).flatMap insB) ∧ Fr TW B w wr
/-- Full, or not. -/
theorem WS.parts {B g : Nat} {w : World} {sp : List Int} (h : WS B w g sp) : B ≤ w.heap.size ∧ ∃ A n c, Mem w g 49 #[.slice A n c] ∧ n ≤ maxLen ∧ (262144 < n ∧ 262144 < sp.length ∨ n ≤ 262144 ∧ n = sp.length) := by
  obtain ⟨xs, ⟨h1, h2, v, h3, h4⟩, h5, h6⟩ := h
  obtain ⟨A, c, rfl, h7, h8⟩ := h4.slice
  refine ⟨h2, A, xs.length, c, h3, Nat.le_trans h7 h8, ?_⟩
  rcases h5 with rfl | h5
  · omega
  · omega
theorem WS.full {B g : Nat} {w : World} {sp sp' : List Int} (h : WS B w g sp) {n : Nat} {A : Option Addr} {c : Nat} (hm : Mem w g 49 #[.slice A n c]) (hn : 262144 < n) (hl : sp.length ≤ sp'.length) : WS B w g sp' := by
  obtain ⟨xs, ⟨h1, h2, v, h3, h4⟩, h5, h6⟩ := h
  obtain ⟨A', c', rfl, h7, h8⟩ := h4.slice
  have e := h3.symm.trans hm
  injection e with e
  injection e with e _
  have e2 : (#[Value.slice A' xs.length c'] : Array Value)[0]? = (#[Value.slice A n c] : Array Value)[0]? := by rw [e]
  simp at e2
  refine ⟨xs, ⟨h1, h2, _, h3, h4⟩, .inr ⟨by omega, ?_⟩, h6⟩
  rcases h5 with rfl | h5
  · omega
  · omega
set_option maxHeartbeats 4000000 in
set_option maxRecDepth 100000 in
theorem a_program (B g : Nat) (sp : List Int) (p : List (List Int)) (A : Option Addr) (n c : Nat) (w : World) (h : WS B w g sp) (hz : PRow w A n p) (hs : 0 < n → Stay TW B w A) (hn : n ≤ maxLen) :
    Calls Try.prog 21 #[.pointer (some ⟨g, 0, none⟩), .slice A n c] w fun e w' => e = .returned (.tuple #[]) ∧ WS B w' g (sp ++ progB p) ∧ Fr TW B w w' := by
  have hn2 := hn
  unfold maxLen at hn
  have hs0 : IntKind.i64.signed = true := rfl
  have hpl := Lib.hid hz.1
  go_enter Try.func21, Try.ntmps21
  go_wp2_with fail
  refine (a_length B g sp n _ h hn2).mono ?_
  rintro e w1 ⟨rfl, h1, hf1⟩
  have hz1 := PRow.fr hz hs hf1
  have hs1 : 0 < n → Stay TW B w1 A := fun h0 => (hs h0).fr hf1
  have F1 := Lib.hid hf1
  clear h hz hs hf1
  go_wp2
  go_loopw [12] (fun i wr => PInv B g w1 (sp ++ uB n) p n i wr) (fun i _ => n - (intOf i).toNat)
  case atStart => exact ⟨0, Nat.zero_le _, rfl, by simpa using h1, Fr.refl _ _ _⟩
  case round =>
    obtain ⟨k, hk, rfl, hws, hfr⟩ := hrel
    have HWS := Lib.hid hws
    obtain ⟨hBs, Av, nv, cv, hm, hvl, hx⟩ := WS.parts hws
    by_cases hlt : k < n
    · obtain ⟨b, off, x0, x1, x2, x3, x4, rfl, hb, hzk, ⟨o0, o1, o2, o3, o4⟩, d0, d1, d2, d3, d4⟩ := PRow.at (PRow.fr hz1 hs1 hfr) hlt
      have HZ := Lib.hid hzk
      have hmb := hm.alloc (.cells #[.int .i64 x0, .int .i64 x1, .int .i64 x2, .int .i64 x3, .int .i64 x4] 75)
      rcases hx with ⟨hx1, hx2⟩ | ⟨hx1, hx2⟩
      · have hd : decide (262144 < nv) = true := by simpa using hx1
        have hE := Lib.hid (WS.full (sp' := sp ++ progB p) (HWS.out.alloc (.cells #[.int .i64 x0, .int .i64 x1, .int .i64 x2, .int .i64 x3, .int .i64 x4] 75)) hmb hx1 (by
          have := fm_le insB (sp ++ uB n) p k
          unfold progB listB
          rw [hpl.out, ← List.append_assoc]
          exact this))
        clear hzk hws hx2 hm
        go_wp2_with (go_at_call 20; refine (a_full _ _ _ _ _ hmb hvl true hd).mono ?_; rintro e w2 ⟨rfl, rfl⟩)
        go_end0
        exact ⟨rfl, hE.out, F1.out.trans (hfr.trans (fr_new hBs _))⟩
      · have hd : decide (262144 < nv) = false := by simp; omega
        have hsz := size_new wr (.cells #[.int .i64 x0, .int .i64 x1, .int .i64 x2, .int .i64 x3, .int .i64 x4] 75)
        obtain ⟨l1, l2, l3⟩ := lit_signed (HWS.out.alloc (.cells #[.int .i64 x0, .int .i64 x1, .int .i64 x2, .int .i64 x3, .int .i64 x4] 75)) [x0, x1, x2, x3, x4] 5 (wr.heap.size + 1) rfl hsz (by simp; exact ⟨o0, o1, o2, o3, o4⟩)
        have L1 := Lib.hid l1
        have L2 := Lib.hid l2
        have L3 := Lib.hid l3
        have hB2 : B ≤ (wr.alloc (.cells #[.int .i64 x0, .int .i64 x1, .int .i64 x2, .int .i64 x3, .int .i64 x4] 75)).heap.size := by rw [hsz]; omega
        have F2 := Lib.hid (hfr.trans ((fr_new hBs _).trans (fr_new hB2 (.cells #[.int .i64 x0, .int .i64 x1, .int .i64 x2, .int .i64 x3, .int .i64 x4] 3))))
        clear hzk hws hx2 hm hsz l1 l2 l3 hB2
        go_wp2_with (first | (go_at_call 20; (with_reducible refine (a_full _ _ _ _ _ hmb hvl false hd).mono ?_); rintro e w2 ⟨rfl, rfl⟩) | (go_at_call 22; refine (a_signed B g _ [x0, x1, x2, x3, x4] _ 5 _ _ L1.out L2.out (fun _ => L3.out) (by unfold maxLen; omega)).mono ?_; rintro e w3 ⟨rfl, h3, hf3⟩))
        have H3 := Lib.hid h3
        clear h3
        go_wp2
        go_roundw
        case rel =>
          refine ⟨k + 1, by omega, by go_num, ?_, F2.out.trans hf3⟩
          have := H3.out
          rw [take_flat insB p k HZ.out, ← List.append_assoc]
          exact this
        case measure => simp [intOf]; omega
    · go_wp2
      go_end0
      refine ⟨rfl, ?_, F1.out.trans hfr⟩
      have := HWS.out
      rw [List.take_of_length_le (by rw [hpl.out]; omega)] at this
      unfold progB listB
      rw [hpl.out, ← List.append_assoc]
      exact this
end Go.Proofs.Ytafidppjabdecaa.CodeC
