/-
  Contracts of the reference of layer 8: Size, Get. Contracts of the reference of layer 8: has, set. The reference's rows with a word turned (for set). Contract of the reference of layer 8: set. Contract of the reference of layer 8: do.
-/
import Derived.Test.YtpjbmbipkmpkhaaCelF
import Derived.Laws.OwnMore
import Derived.Test.YtpjbmbipkmpkhaaCelO
namespace Go.Proofs.Ytpjbmbipkmpkhaa.CelZ
open Go.ChangeShapes Go.WideShapes Go.ChangeAt Go.RowKit
open PlainT BlkW LayS LayA CelS CelM CelV CelN CelF
set_option linter.unusedVariables false
set_option maxHeartbeats 1000000

set_option maxRecDepth 100000 in
theorem size1 (lo hi : Nat) (w : World) (rb : Nat) (q : Cfg) (A : Int → List Int) (h : RefIs lo hi w rb q A) : Calls Try.prog 13 #[.pointer (some ⟨rb, 0, none⟩), .int .i64 1] w fun e w' => e = .returned (.int .i64 (A 1).length) ∧ w = w' := by
  obtain ⟨V, X, c, t, s, h⟩ := h
  rw [h.a1]
  obtain ⟨a, cp, hv, _⟩ := own_slice (h.r.own 0 (by decide))
  have hb : w.cell? ⟨rb, 13, none⟩ = some (V 0) := h.r.bx.cell 13
  rw [hv] at hb
  clear h hv
  go_enter Try.func13, Try.ntmps13
  go_wp2
  go_ret
  exact ⟨rfl, rfl⟩
set_option maxRecDepth 100000 in
theorem size2 (lo hi : Nat) (w : World) (rb : Nat) (q : Cfg) (A : Int → List Int) (h : RefIs lo hi w rb q A) : Calls Try.prog 13 #[.pointer (some ⟨rb, 0, none⟩), .int .i64 2] w fun e w' => e = .returned (.int .i64 (A 2).length) ∧ w = w' := by
  obtain ⟨V, X, c, t, s, h⟩ := h
  rw [h.a2]
  obtain ⟨a, cp, hv, _⟩ := own_slice (h.r.own 1 (by decide))
  have hb : w.cell? ⟨rb, 14, none⟩ = some (V 1) := h.r.bx.cell 14
  rw [hv] at hb
  clear h hv
  go_enter Try.func13, Try.ntmps13
  go_wp2
  go_ret
  exact ⟨rfl, rfl⟩
set_option maxRecDepth 100000 in
theorem size3 (lo hi : Nat) (w : World) (rb : Nat) (q : Cfg) (A : Int → List Int) (h : RefIs lo hi w rb q A) : Calls Try.prog 13 #[.pointer (some ⟨rb, 0, none⟩), .int .i64 3] w fun e w' => e = .returned (.int .i64 (A 3).length) ∧ w = w' := by
  obtain ⟨V, X, c, t, s, h⟩ := h
  rw [h.a3]
  clear h
  go_enter Try.func13, Try.ntmps13
  go_wp2
  go_ret
  exact ⟨rfl, rfl⟩
set_option maxRecDepth 100000 in
theorem size4 (lo hi : Nat) (w : World) (rb : Nat) (q : Cfg) (A : Int → List Int) (h : RefIs lo hi w rb q A) : Calls Try.prog 13 #[.pointer (some ⟨rb, 0, none⟩), .int .i64 4] w fun e w' => e = .returned (.int .i64 (A 4).length) ∧ w = w' := by
  obtain ⟨V, X, c, t, s, h⟩ := h
  rw [h.a4]
  clear h
  go_enter Try.func13, Try.ntmps13
  go_wp2
  go_ret
  exact ⟨rfl, rfl⟩
set_option maxRecDepth 100000 in
theorem size5 (lo hi : Nat) (w : World) (rb : Nat) (q : Cfg) (A : Int → List Int) (h : RefIs lo hi w rb q A) : Calls Try.prog 13 #[.pointer (some ⟨rb, 0, none⟩), .int .i64 5] w fun e w' => e = .returned (.int .i64 (A 5).length) ∧ w = w' := by
  obtain ⟨V, X, c, t, s, h⟩ := h
  rw [h.a5]
  clear h
  go_enter Try.func13, Try.ntmps13
  go_wp2
  go_ret
  exact ⟨rfl, rfl⟩
set_option maxRecDepth 100000 in
theorem size6 (lo hi : Nat) (w : World) (rb : Nat) (q : Cfg) (A : Int → List Int) (h : RefIs lo hi w rb q A) : Calls Try.prog 13 #[.pointer (some ⟨rb, 0, none⟩), .int .i64 6] w fun e w' => e = .returned (.int .i64 (A 6).length) ∧ w = w' := by
  obtain ⟨V, X, c, t, s, h⟩ := h
  rw [h.a6]
  obtain ⟨a, cp, hv, _⟩ := own_slice (h.r.own 2 (by decide))
  have hb : w.cell? ⟨rb, 18, none⟩ = some (V 2) := h.r.bx.cell 18
  rw [hv] at hb
  clear h hv
  go_enter Try.func13, Try.ntmps13
  go_wp2
  go_ret
  exact ⟨rfl, rfl⟩
set_option maxRecDepth 100000 in
theorem size7 (lo hi : Nat) (w : World) (rb : Nat) (q : Cfg) (A : Int → List Int) (h : RefIs lo hi w rb q A) : Calls Try.prog 13 #[.pointer (some ⟨rb, 0, none⟩), .int .i64 7] w fun e w' => e = .returned (.int .i64 (A 7).length) ∧ w = w' := by
  obtain ⟨V, X, c, t, s, h⟩ := h
  rw [h.a7]
  obtain ⟨a, cp, hv, _⟩ := own_slice (h.r.own 3 (by decide))
  have hb : w.cell? ⟨rb, 19, none⟩ = some (V 3) := h.r.bx.cell 19
  rw [hv] at hb
  clear h hv
  go_enter Try.func13, Try.ntmps13
  go_wp2
  go_ret
  exact ⟨rfl, rfl⟩
set_option maxRecDepth 100000 in
theorem size8 (lo hi : Nat) (w : World) (rb : Nat) (q : Cfg) (A : Int → List Int) (h : RefIs lo hi w rb q A) : Calls Try.prog 13 #[.pointer (some ⟨rb, 0, none⟩), .int .i64 8] w fun e w' => e = .returned (.int .i64 (A 8).length) ∧ w = w' := by
  obtain ⟨V, X, c, t, s, h⟩ := h
  rw [h.a8]
  obtain ⟨a, cp, hv, _⟩ := own_slice (h.r.own 4 (by decide))
  have hb : w.cell? ⟨rb, 20, none⟩ = some (V 4) := h.r.bx.cell 20
  rw [hv] at hb
  clear h hv
  go_enter Try.func13, Try.ntmps13
  go_wp2
  go_ret
  exact ⟨rfl, rfl⟩
set_option maxRecDepth 100000 in
theorem size_no (w : World) (rb : Nat) (k : Int) (hk : ¬ (1 ≤ k ∧ k ≤ 8)) : Calls Try.prog 13 #[.pointer (some ⟨rb, 0, none⟩), .int .i64 k] w fun e w' => e = .returned (.int .i64 0) ∧ w = w' := by
  have k1 : (k == 1) = false := by rw [beq_eq_false_iff_ne]; omega
  have k2 : (k == 2) = false := by rw [beq_eq_false_iff_ne]; omega
  have k3 : (k == 3) = false := by rw [beq_eq_false_iff_ne]; omega
  have k4 : (k == 4) = false := by rw [beq_eq_false_iff_ne]; omega
  have k5 : (k == 5) = false := by rw [beq_eq_false_iff_ne]; omega
  have k6 : (k == 6) = false := by rw [beq_eq_false_iff_ne]; omega
  have k7 : (k == 7) = false := by rw [beq_eq_false_iff_ne]; omega
  have k8 : (k == 8) = false := by rw [beq_eq_false_iff_ne]; omega
  clear hk
  go_enter Try.func13, Try.ntmps13
  go_wp2
  go_ret
  exact ⟨rfl, rfl⟩
theorem r_size (lo hi : Nat) (w : World) (rb : Nat) (q : Cfg) (A : Int → List Int) (h : RefIs lo hi w rb q A) (hout : ∀ k, ¬ (1 ≤ k ∧ k ≤ 8) → A k = []) (k : Int) : Calls Try.prog 13 #[.pointer (some ⟨rb, 0, none⟩), .int .i64 k] w fun e w' => e = .returned (.int .i64 (A k).length) ∧ w = w' := by
  by_cases hk : 1 ≤ k ∧ k ≤ 8
  · have : k = 1 ∨ k = 2 ∨ k = 3 ∨ k = 4 ∨ k = 5 ∨ k = 6 ∨ k = 7 ∨ k = 8 := by omega
    rcases this with rfl | rfl | rfl | rfl | rfl | rfl | rfl | rfl
    · exact size1 lo hi w rb q A h
    · exact size2 lo hi w rb q A h
    · exact size3 lo hi w rb q A h
    · exact size4 lo hi w rb q A h
    · exact size5 lo hi w rb q A h
    · exact size6 lo hi w rb q A h
    · exact size7 lo hi w rb q A h
    · exact size8 lo hi w rb q A h
  · rw [hout k hk]
    exact size_no w rb k hk
set_option maxRecDepth 100000 in
theorem get1 (lo hi : Nat) (w : World) (rb : Nat) (q : Cfg) (A : Int → List Int) (h : RefIs lo hi w rb q A) (i : Nat) (hi : i < (A 1).length) (x : Int) (hx : (A 1).getD i 0 = x) : Calls Try.prog 14 #[.pointer (some ⟨rb, 0, none⟩), .int .i64 1, .int .i64 i] w fun e w' => e = .returned (.int .u64 x) ∧ w = w' := by
  obtain ⟨V, X, c, t, s, h⟩ := h
  rw [h.a1] at hi hx
  obtain ⟨rg, cp, cur, hv, _, _, _, hrc⟩ := own_cells (h.r.own 0 (by decide)) (by omega)
  have hb : w.cell? ⟨rb, 13, none⟩ = some (V 0) := h.r.bx.cell 13
  have hc : w.cell? ⟨rg, i, none⟩ = some (.int .u64 x) := by
    rw [hrc i (by omega)]
    unfold us
    rw [List.getElem?_map, List.getElem?_eq_getElem hi, ← hx, List.getD_eq_getElem?_getD, List.getElem?_eq_getElem hi]
    rfl
  rw [hv] at hb
  obtain ⟨n, hn⟩ : ∃ n, (X 0).length = n := ⟨_, rfl⟩
  rw [hn] at hi hb
  have hii : (i : Int) < n := by omega
  have hll : n ≤ cp ∨ True := .inr trivial
  clear h hv hrc hn hx hll
  go_enter Try.func14, Try.ntmps14
  go_wp2
  go_ret
  exact ⟨rfl, rfl⟩
set_option maxRecDepth 100000 in
theorem get2 (lo hi : Nat) (w : World) (rb : Nat) (q : Cfg) (A : Int → List Int) (h : RefIs lo hi w rb q A) (i : Nat) (hi : i < (A 2).length) (x : Int) (hx : (A 2).getD i 0 = x) : Calls Try.prog 14 #[.pointer (some ⟨rb, 0, none⟩), .int .i64 2, .int .i64 i] w fun e w' => e = .returned (.int .u64 x) ∧ w = w' := by
  obtain ⟨V, X, c, t, s, h⟩ := h
  rw [h.a2] at hi hx
  obtain ⟨rg, cp, cur, hv, _, _, _, hrc⟩ := own_cells (h.r.own 1 (by decide)) (by omega)
  have hb : w.cell? ⟨rb, 14, none⟩ = some (V 1) := h.r.bx.cell 14
  have hc : w.cell? ⟨rg, i, none⟩ = some (.int .u64 x) := by
    rw [hrc i (by omega)]
    unfold us
    rw [List.getElem?_map, List.getElem?_eq_getElem hi, ← hx, List.getD_eq_getElem?_getD, List.getElem?_eq_getElem hi]
    rfl
  rw [hv] at hb
  obtain ⟨n, hn⟩ : ∃ n, (X 1).length = n := ⟨_, rfl⟩
  rw [hn] at hi hb
  have hii : (i : Int) < n := by omega
  have hll : n ≤ cp ∨ True := .inr trivial
  clear h hv hrc hn hx hll
  go_enter Try.func14, Try.ntmps14
  go_wp2
  go_ret
  exact ⟨rfl, rfl⟩
set_option maxRecDepth 100000 in
theorem get3 (lo hi : Nat) (w : World) (rb : Nat) (q : Cfg) (A : Int → List Int) (h : RefIs lo hi w rb q A) (i : Nat) (hi : i < (A 3).length) (x : Int) (hx : (A 3).getD i 0 = x) : Calls Try.prog 14 #[.pointer (some ⟨rb, 0, none⟩), .int .i64 3, .int .i64 i] w fun e w' => e = .returned (.int .u64 x) ∧ w = w' := by
  obtain ⟨V, X, c, t, s, h⟩ := h
  rw [h.a3] at hi hx
  have hb : w.cell? ⟨rb, 15, none⟩ = some (.int .u64 c) := h.r.bx.cell 15
  have hi0 : i = 0 := by simpa using hi
  subst hi0
  have hx' : c = x := by simpa using hx
  subst hx'
  clear h hx hi
  go_enter Try.func14, Try.ntmps14
  go_wp2
  go_ret
  exact ⟨rfl, rfl⟩
set_option maxRecDepth 100000 in
theorem get4 (lo hi : Nat) (w : World) (rb : Nat) (q : Cfg) (A : Int → List Int) (h : RefIs lo hi w rb q A) (i : Nat) (hi : i < (A 4).length) (x : Int) (hx : (A 4).getD i 0 = x) : Calls Try.prog 14 #[.pointer (some ⟨rb, 0, none⟩), .int .i64 4, .int .i64 i] w fun e w' => e = .returned (.int .u64 x) ∧ w = w' := by
  obtain ⟨V, X, c, t, s, h⟩ := h
  rw [h.a4] at hi hx
  have hb : w.cell? ⟨rb, 16, none⟩ = some (.int .u64 t) := h.r.bx.cell 16
  have hi0 : i = 0 := by simpa using hi
  subst hi0
  have hx' : t = x := by simpa using hx
  subst hx'
  clear h hx hi
  go_enter Try.func14, Try.ntmps14
  go_wp2
  go_ret
  exact ⟨rfl, rfl⟩
set_option maxRecDepth 100000 in
theorem get5 (lo hi : Nat) (w : World) (rb : Nat) (q : Cfg) (A : Int → List Int) (h : RefIs lo hi w rb q A) (i : Nat) (hi : i < (A 5).length) (x : Int) (hx : (A 5).getD i 0 = x) : Calls Try.prog 14 #[.pointer (some ⟨rb, 0, none⟩), .int .i64 5, .int .i64 i] w fun e w' => e = .returned (.int .u64 x) ∧ w = w' := by
  obtain ⟨V, X, c, t, s, h⟩ := h
  rw [h.a5] at hi hx
  have hb : w.cell? ⟨rb, 17, none⟩ = some (.int .u64 s) := h.r.bx.cell 17
  have hi0 : i = 0 := by simpa using hi
  subst hi0
  have hx' : s = x := by simpa using hx
  subst hx'
  clear h hx hi
  go_enter Try.func14, Try.ntmps14
  go_wp2
  go_ret
  exact ⟨rfl, rfl⟩
set_option maxRecDepth 100000 in
theorem get6 (lo hi : Nat) (w : World) (rb : Nat) (q : Cfg) (A : Int → List Int) (h : RefIs lo hi w rb q A) (i : Nat) (hi : i < (A 6).length) (x : Int) (hx : (A 6).getD i 0 = x) : Calls Try.prog 14 #[.pointer (some ⟨rb, 0, none⟩), .int .i64 6, .int .i64 i] w fun e w' => e = .returned (.int .u64 x) ∧ w = w' := by
  obtain ⟨V, X, c, t, s, h⟩ := h
  rw [h.a6] at hi hx
  obtain ⟨rg, cp, cur, hv, _, _, _, hrc⟩ := own_cells (h.r.own 2 (by decide)) (by omega)
  have hb : w.cell? ⟨rb, 18, none⟩ = some (V 2) := h.r.bx.cell 18
  have hc : w.cell? ⟨rg, i, none⟩ = some (.int .u64 x) := by
    rw [hrc i (by omega)]
    unfold us
    rw [List.getElem?_map, List.getElem?_eq_getElem hi, ← hx, List.getD_eq_getElem?_getD, List.getElem?_eq_getElem hi]
    rfl
  rw [hv] at hb
  obtain ⟨n, hn⟩ : ∃ n, (X 2).length = n := ⟨_, rfl⟩
  rw [hn] at hi hb
  have hii : (i : Int) < n := by omega
  have hll : n ≤ cp ∨ True := .inr trivial
  clear h hv hrc hn hx hll
  go_enter Try.func14, Try.ntmps14
  go_wp2
  go_ret
  exact ⟨rfl, rfl⟩
set_option maxRecDepth 100000 in
theorem get7 (lo hi : Nat) (w : World) (rb : Nat) (q : Cfg) (A : Int → List Int) (h : RefIs lo hi w rb q A) (i : Nat) (hi : i < (A 7).length) (x : Int) (hx : (A 7).getD i 0 = x) : Calls Try.prog 14 #[.pointer (some ⟨rb, 0, none⟩), .int .i64 7, .int .i64 i] w fun e w' => e = .returned (.int .u64 x) ∧ w = w' := by
  obtain ⟨V, X, c, t, s, h⟩ := h
  rw [h.a7] at hi hx
  obtain ⟨rg, cp, cur, hv, _, _, _, hrc⟩ := own_cells (h.r.own 3 (by decide)) (by omega)
  have hb : w.cell? ⟨rb, 19, none⟩ = some (V 3) := h.r.bx.cell 19
  have hc : w.cell? ⟨rg, i, none⟩ = some (.int .u64 x) := by
    rw [hrc i (by omega)]
    unfold us
    rw [List.getElem?_map, List.getElem?_eq_getElem hi, ← hx, List.getD_eq_getElem?_getD, List.getElem?_eq_getElem hi]
    rfl
  rw [hv] at hb
  obtain ⟨n, hn⟩ : ∃ n, (X 3).length = n := ⟨_, rfl⟩
  rw [hn] at hi hb
  have hii : (i : Int) < n := by omega
  have hll : n ≤ cp ∨ True := .inr trivial
  clear h hv hrc hn hx hll
  go_enter Try.func14, Try.ntmps14
  go_wp2
  go_ret
  exact ⟨rfl, rfl⟩
set_option maxRecDepth 100000 in
theorem get8 (lo hi : Nat) (w : World) (rb : Nat) (q : Cfg) (A : Int → List Int) (h : RefIs lo hi w rb q A) (i : Nat) (hi : i < (A 8).length) (x : Int) (hx : (A 8).getD i 0 = x) : Calls Try.prog 14 #[.pointer (some ⟨rb, 0, none⟩), .int .i64 8, .int .i64 i] w fun e w' => e = .returned (.int .u64 x) ∧ w = w' := by
  obtain ⟨V, X, c, t, s, h⟩ := h
  rw [h.a8] at hi hx
  obtain ⟨rg, cp, cur, hv, _, _, _, hrc⟩ := own_cells (h.r.own 4 (by decide)) (by omega)
  have hb : w.cell? ⟨rb, 20, none⟩ = some (V 4) := h.r.bx.cell 20
  have hc : w.cell? ⟨rg, i, none⟩ = some (.int .u64 x) := by
    rw [hrc i (by omega)]
    unfold us
    rw [List.getElem?_map, List.getElem?_eq_getElem hi, ← hx, List.getD_eq_getElem?_getD, List.getElem?_eq_getElem hi]
    rfl
  rw [hv] at hb
  obtain ⟨n, hn⟩ : ∃ n, (X 4).length = n := ⟨_, rfl⟩
  rw [hn] at hi hb
  have hii : (i : Int) < n := by omega
  have hll : n ≤ cp ∨ True := .inr trivial
  clear h hv hrc hn hx hll
  go_enter Try.func14, Try.ntmps14
  go_wp2
  go_ret
  exact ⟨rfl, rfl⟩
theorem r_get (lo hi : Nat) (w : World) (rb : Nat) (q : Cfg) (A : Int → List Int) (h : RefIs lo hi w rb q A) (k : Int) (hk : 1 ≤ k ∧ k ≤ 8) (i : Nat) (hil : i < (A k).length) (x : Int) (hx : (A k).getD i 0 = x) : Calls Try.prog 14 #[.pointer (some ⟨rb, 0, none⟩), .int .i64 k, .int .i64 i] w fun e w' => e = .returned (.int .u64 x) ∧ w = w' := by
  have : k = 1 ∨ k = 2 ∨ k = 3 ∨ k = 4 ∨ k = 5 ∨ k = 6 ∨ k = 7 ∨ k = 8 := by omega
  rcases this with rfl | rfl | rfl | rfl | rfl | rfl | rfl | rfl
  · exact get1 lo hi w rb q A h i hil x hx
  · exact get2 lo hi w rb q A h i hil x hx
  · exact get3 lo hi w rb q A h i hil x hx
  · exact get4 lo hi w rb q A h i hil x hx
  · exact get5 lo hi w rb q A h i hil x hx
  · exact get6 lo hi w rb q A h i hil x hx
  · exact get7 lo hi w rb q A h i hil x hx
  · exact get8 lo hi w rb q A h i hil x hx
end Go.Proofs.Ytpjbmbipkmpkhaa.CelZ
namespace Go.Proofs.Ytpjbmbipkmpkhaa.CelH
open Go.ChangeShapes Go.WideShapes Go.ChangeAt Go.RowKit
open PlainT BlkW LayS LayA CelS CelM CelV CelN CelF CelZ
set_option linter.unusedVariables false
set_option maxHeartbeats 1000000
set_option maxRecDepth 100000
theorem r_has (lo hi : Nat) (w : World) (rb : Nat) (q : Cfg) (A : Int → List Int) (h : RefIs lo hi w rb q A) (hout : ∀ k, ¬ (1 ≤ k ∧ k ≤ 8) → A k = []) (k i : Int) : Calls Try.prog 106 #[.pointer (some ⟨rb, 0, none⟩), .int .i64 k, .int .i64 i] w fun e w' => e = .returned (.bool (decide (0 ≤ i ∧ i < (A k).length))) ∧ w = w' := by
  have hs := r_size lo hi w rb q A h hout k
  obtain ⟨n, hn⟩ : ∃ n, (A k).length = n := ⟨_, rfl⟩
  rw [hn] at hs ⊢
  clear hn h hout
  by_cases h0 : 0 ≤ i
  · by_cases h1 : i < n
    · rw [decide_eq_true (show 0 ≤ i ∧ i < (n : Int) from ⟨h0, h1⟩)]
      go_enter Try.func106, Try.ntmps106
      go_wp2_with (go_at_call 13; (with_reducible refine hs.mono ?_); rintro e w1 ⟨rfl, rfl⟩)
      go_ret
      exact ⟨rfl, rfl⟩
    · have h2 : (n : Int) ≤ i := by omega
      rw [decide_eq_false (show ¬ (0 ≤ i ∧ i < (n : Int)) by omega)]
      clear h1
      go_enter Try.func106, Try.ntmps106
      go_wp2_with (go_at_call 13; (with_reducible refine hs.mono ?_); rintro e w1 ⟨rfl, rfl⟩)
      go_ret
      exact ⟨by show Ending.returned (.bool (decide (i < (n : Int)))) = _; rw [decide_eq_false (by omega)], rfl⟩
  · have h2 : i < 0 := by omega
    rw [decide_eq_false (show ¬ (0 ≤ i ∧ i < (n : Int)) by omega)]
    clear h0
    go_enter Try.func106, Try.ntmps106
    go_wp2_with (go_at_call 13; (with_reducible refine hs.mono ?_); rintro e w1 ⟨rfl, rfl⟩)
    go_ret
    exact ⟨rfl, rfl⟩
end Go.Proofs.Ytpjbmbipkmpkhaa.CelH
namespace Go.Proofs.Ytpjbmbipkmpkhaa.CelC
open Go.ChangeShapes Go.WideShapes Go.ChangeAt Go.RowKit
open PlainT BlkW LayS LayA CelS CelM CelV CelN CelF CelZ
set_option linter.unusedVariables false
set_option maxHeartbeats 1000000
/-- The cell's kind that row k of the reference holds. -/
def cellOf (k : Nat) : Int := if k = 0 then 1 else if k = 1 then 2 else if k = 2 then 6 else if k = 3 then 7 else 8
theorem own_set {w : World} {base g n cap : Nat} {xs : List Int} (h : OwnU w base (.slice (some ⟨g, 0, none⟩) n cap) xs) (i : Nat) (x : Int) : OwnU (w.setCell ⟨g, i, none⟩ (.int .u64 x)) base (.slice (some ⟨g, 0, none⟩) n cap) (xs.set i x) := by
  obtain ⟨A, c, hv, _⟩ := own_slice h
  injection hv with _ hn _
  subst hn
  have := (World.ownsRow.stored h i (.int .u64 x)).1
  unfold OwnU
  rw [List.length_set]
  have hu : us (xs.set i x) = (us xs).set i (.int .u64 x) := by unfold us; rw [List.map_set]
  rw [hu]
  exact this
theorem ref_set {lo hi : Nat} {w : World} {rb : Nat} {q : Cfg} {A : Int → List Int} {V : Nat → Value} {X : Nat → List Int} {c t s : Int} (h : Ref lo hi w rb q A V X c t s) {k : Nat} (hk : k < 5) {g n cap : Nat} (hv : V k = .slice (some ⟨g, 0, none⟩) n cap) (i : Nat) (x : Int) :
    Ref lo hi (w.setCell ⟨g, i, none⟩ (.int .u64 x)) rb q (upd A (cellOf k) i x) V (up X k ((X k).set i x)) c t s := by
  have hog : (V k).ownBlock = some g := by rw [hv]; rfl
  have hne : rb ≠ g := fun e => h.r.row_ne hk (by rw [hog, e])
  refine ⟨⟨h.r.bx.far hne _, fun j hj => ?_, h.r.ap, h.r.low⟩, h.bIn, h.rIn, by simpa [World.setCell] using h.top, ?_, ?_, ?_, ?_, ?_, ?_, ?_, ?_⟩
  · by_cases hjk : j = k
    · subst hjk
      rw [up_self]
      have := h.r.own j hj
      rw [hv] at this ⊢
      exact own_set this i x
    · rw [up_ne _ _ hjk]
      exact own_far (h.r.own j hj) (fun e => h.r.ap j k hj hk hjk g e hog) _
  all_goals
    have hc : k = 0 ∨ k = 1 ∨ k = 2 ∨ k = 3 ∨ k = 4 := by omega
    rcases hc with rfl | rfl | rfl | rfl | rfl <;> simp [upd, cellOf, up, h.a1, h.a2, h.a3, h.a4, h.a5, h.a6, h.a7, h.a8]
end Go.Proofs.Ytpjbmbipkmpkhaa.CelC
namespace Go.Proofs.Ytpjbmbipkmpkhaa.CelD
open Go.ChangeShapes Go.WideShapes Go.ChangeAt Go.RowKit
open PlainT BlkW LayS LayA CelS CelM CelV CelN CelF CelZ CelC
set_option linter.unusedVariables false
set_option maxHeartbeats 1000000
set_option maxRecDepth 100000
theorem set1 (lo hi : Nat) (w : World) (rb : Nat) (q : Cfg) (A : Int → List Int) (h : RefIs lo hi w rb q A) (i : Nat) (hil : i < (A 1).length) (x : Int) : Calls Try.prog 124 #[.pointer (some ⟨rb, 0, none⟩), .int .i64 1, .int .i64 i, .int .u64 x] w fun e w' => e = .returned (.tuple #[]) ∧ RefIs lo hi w' rb q (upd A 1 i x) ∧ Stay lo hi w w' := by
  obtain ⟨V, X, c, t, s, h⟩ := h
  rw [h.a1] at hil
  obtain ⟨rg, cp, cur, hv, hlo, _, _, hrc⟩ := own_cells (h.r.own 0 (by decide)) (by omega)
  have hb : w.cell? ⟨rb, 13, none⟩ = some (V 0) := h.r.bx.cell 13
  have hc : w.cell? ⟨rg, i, none⟩ = some (.int .u64 ((X 0)[i]'hil)) := by
    rw [hrc i (by omega)]
    unfold us
    rw [List.getElem?_map, List.getElem?_eq_getElem hil]
    rfl
  have hf : w.frozen? ⟨rg, i, none⟩ = false := by
    have := h.r.own 0 (by decide)
    rw [hv] at this
    exact World.ownsRow.frozenAt this i
  have hR := Lib.hid (ref_set h (k := 0) (by decide) hv i x)
  have hS := Lib.hid ((Stay.refl lo hi w).set_ ⟨rg, i, none⟩ (.inl ⟨hlo, h.rIn 0 (by decide) rg (by rw [hv]; rfl)⟩) (.int .u64 x))
  rw [hv] at hb
  obtain ⟨n, hn⟩ : ∃ n, (X 0).length = n := ⟨_, rfl⟩
  obtain ⟨y, hy⟩ : ∃ y, (X 0)[i]'hil = y := ⟨_, rfl⟩
  rw [hy] at hc
  rw [hn] at hb hil
  have hii : (i : Int) < n := by omega
  clear h hv hrc hy hn
  go_enter Try.func124, Try.ntmps124
  go_wp2
  go_end0
  exact ⟨rfl, ⟨_, _, _, _, _, hR.out⟩, hS.out⟩
theorem set2 (lo hi : Nat) (w : World) (rb : Nat) (q : Cfg) (A : Int → List Int) (h : RefIs lo hi w rb q A) (i : Nat) (hil : i < (A 2).length) (x : Int) : Calls Try.prog 124 #[.pointer (some ⟨rb, 0, none⟩), .int .i64 2, .int .i64 i, .int .u64 x] w fun e w' => e = .returned (.tuple #[]) ∧ RefIs lo hi w' rb q (upd A 2 i x) ∧ Stay lo hi w w' := by
  obtain ⟨V, X, c, t, s, h⟩ := h
  rw [h.a2] at hil
  obtain ⟨rg, cp, cur, hv, hlo, _, _, hrc⟩ := own_cells (h.r.own 1 (by decide)) (by omega)
  have hb : w.cell? ⟨rb, 14, none⟩ = some (V 1) := h.r.bx.cell 14
  have hc : w.cell? ⟨rg, i, none⟩ = some (.int .u64 ((X 1)[i]'hil)) := by
    rw [hrc i (by omega)]
    unfold us
    rw [List.getElem?_map, List.getElem?_eq_getElem hil]
    rfl
  have hf : w.frozen? ⟨rg, i, none⟩ = false := by
    have := h.r.own 1 (by decide)
    rw [hv] at this
    exact World.ownsRow.frozenAt this i
  have hR := Lib.hid (ref_set h (k := 1) (by decide) hv i x)
  have hS := Lib.hid ((Stay.refl lo hi w).set_ ⟨rg, i, none⟩ (.inl ⟨hlo, h.rIn 1 (by decide) rg (by rw [hv]; rfl)⟩) (.int .u64 x))
  rw [hv] at hb
  obtain ⟨n, hn⟩ : ∃ n, (X 1).length = n := ⟨_, rfl⟩
  obtain ⟨y, hy⟩ : ∃ y, (X 1)[i]'hil = y := ⟨_, rfl⟩
  rw [hy] at hc
  rw [hn] at hb hil
  have hii : (i : Int) < n := by omega
  clear h hv hrc hy hn
  go_enter Try.func124, Try.ntmps124
  go_wp2
  go_end0
  exact ⟨rfl, ⟨_, _, _, _, _, hR.out⟩, hS.out⟩
theorem set6 (lo hi : Nat) (w : World) (rb : Nat) (q : Cfg) (A : Int → List Int) (h : RefIs lo hi w rb q A) (i : Nat) (hil : i < (A 6).length) (x : Int) : Calls Try.prog 124 #[.pointer (some ⟨rb, 0, none⟩), .int .i64 6, .int .i64 i, .int .u64 x] w fun e w' => e = .returned (.tuple #[]) ∧ RefIs lo hi w' rb q (upd A 6 i x) ∧ Stay lo hi w w' := by
  obtain ⟨V, X, c, t, s, h⟩ := h
  rw [h.a6] at hil
  obtain ⟨rg, cp, cur, hv, hlo, _, _, hrc⟩ := own_cells (h.r.own 2 (by decide)) (by omega)
  have hb : w.cell? ⟨rb, 18, none⟩ = some (V 2) := h.r.bx.cell 18
  have hc : w.cell? ⟨rg, i, none⟩ = some (.int .u64 ((X 2)[i]'hil)) := by
    rw [hrc i (by omega)]
    unfold us
    rw [List.getElem?_map, List.getElem?_eq_getElem hil]
    rfl
  have hf : w.frozen? ⟨rg, i, none⟩ = false := by
    have := h.r.own 2 (by decide)
    rw [hv] at this
    exact World.ownsRow.frozenAt this i
  have hR := Lib.hid (ref_set h (k := 2) (by decide) hv i x)
  have hS := Lib.hid ((Stay.refl lo hi w).set_ ⟨rg, i, none⟩ (.inl ⟨hlo, h.rIn 2 (by decide) rg (by rw [hv]; rfl)⟩) (.int .u64 x))
  rw [hv] at hb
  obtain ⟨n, hn⟩ : ∃ n, (X 2).length = n := ⟨_, rfl⟩
  obtain ⟨y, hy⟩ : ∃ y, (X 2)[i]'hil = y := ⟨_, rfl⟩
  rw [hy] at hc
  rw [hn] at hb hil
  have hii : (i : Int) < n := by omega
  clear h hv hrc hy hn
  go_enter Try.func124, Try.ntmps124
  go_wp2
  go_end0
  exact ⟨rfl, ⟨_, _, _, _, _, hR.out⟩, hS.out⟩
theorem set7 (lo hi : Nat) (w : World) (rb : Nat) (q : Cfg) (A : Int → List Int) (h : RefIs lo hi w rb q A) (i : Nat) (hil : i < (A 7).length) (x : Int) : Calls Try.prog 124 #[.pointer (some ⟨rb, 0, none⟩), .int .i64 7, .int .i64 i, .int .u64 x] w fun e w' => e = .returned (.tuple #[]) ∧ RefIs lo hi w' rb q (upd A 7 i x) ∧ Stay lo hi w w' := by
  obtain ⟨V, X, c, t, s, h⟩ := h
  rw [h.a7] at hil
  obtain ⟨rg, cp, cur, hv, hlo, _, _, hrc⟩ := own_cells (h.r.own 3 (by decide)) (by omega)
  have hb : w.cell? ⟨rb, 19, none⟩ = some (V 3) := h.r.bx.cell 19
  have hc : w.cell? ⟨rg, i, none⟩ = some (.int .u64 ((X 3)[i]'hil)) := by
    rw [hrc i (by omega)]
    unfold us
    rw [List.getElem?_map, List.getElem?_eq_getElem hil]
    rfl
  have hf : w.frozen? ⟨rg, i, none⟩ = false := by
    have := h.r.own 3 (by decide)
    rw [hv] at this
    exact World.ownsRow.frozenAt this i
  have hR := Lib.hid (ref_set h (k := 3) (by decide) hv i x)
  have hS := Lib.hid ((Stay.refl lo hi w).set_ ⟨rg, i, none⟩ (.inl ⟨hlo, h.rIn 3 (by decide) rg (by rw [hv]; rfl)⟩) (.int .u64 x))
  rw [hv] at hb
  obtain ⟨n, hn⟩ : ∃ n, (X 3).length = n := ⟨_, rfl⟩
  obtain ⟨y, hy⟩ : ∃ y, (X 3)[i]'hil = y := ⟨_, rfl⟩
  rw [hy] at hc
  rw [hn] at hb hil
  have hii : (i : Int) < n := by omega
  clear h hv hrc hy hn
  go_enter Try.func124, Try.ntmps124
  go_wp2
  go_end0
  exact ⟨rfl, ⟨_, _, _, _, _, hR.out⟩, hS.out⟩
theorem set8 (lo hi : Nat) (w : World) (rb : Nat) (q : Cfg) (A : Int → List Int) (h : RefIs lo hi w rb q A) (i : Nat) (hil : i < (A 8).length) (x : Int) : Calls Try.prog 124 #[.pointer (some ⟨rb, 0, none⟩), .int .i64 8, .int .i64 i, .int .u64 x] w fun e w' => e = .returned (.tuple #[]) ∧ RefIs lo hi w' rb q (upd A 8 i x) ∧ Stay lo hi w w' := by
  obtain ⟨V, X, c, t, s, h⟩ := h
  rw [h.a8] at hil
  obtain ⟨rg, cp, cur, hv, hlo, _, _, hrc⟩ := own_cells (h.r.own 4 (by decide)) (by omega)
  have hb : w.cell? ⟨rb, 20, none⟩ = some (V 4) := h.r.bx.cell 20
  have hc : w.cell? ⟨rg, i, none⟩ = some (.int .u64 ((X 4)[i]'hil)) := by
    rw [hrc i (by omega)]
    unfold us
    rw [List.getElem?_map, List.getElem?_eq_getElem hil]
    rfl
  have hf : w.frozen? ⟨rg, i, none⟩ = false := by
    have := h.r.own 4 (by decide)
    rw [hv] at this
    exact World.ownsRow.frozenAt this i
  have hR := Lib.hid (ref_set h (k := 4) (by decide) hv i x)
  have hS := Lib.hid ((Stay.refl lo hi w).set_ ⟨rg, i, none⟩ (.inl ⟨hlo, h.rIn 4 (by decide) rg (by rw [hv]; rfl)⟩) (.int .u64 x))
  rw [hv] at hb
  obtain ⟨n, hn⟩ : ∃ n, (X 4).length = n := ⟨_, rfl⟩
  obtain ⟨y, hy⟩ : ∃ y, (X 4)[i]'hil = y := ⟨_, rfl⟩
  rw [hy] at hc
  rw [hn] at hb hil
  have hii : (i : Int) < n := by omega
  clear h hv hrc hy hn
  go_enter Try.func124, Try.ntmps124
  go_wp2
  go_end0
  exact ⟨rfl, ⟨_, _, _, _, _, hR.out⟩, hS.out⟩
theorem set3 (lo hi : Nat) (w : World) (rb : Nat) (q : Cfg) (A : Int → List Int) (h : RefIs lo hi w rb q A) (i : Nat) (hil : i < (A 3).length) (x : Int) : Calls Try.prog 124 #[.pointer (some ⟨rb, 0, none⟩), .int .i64 3, .int .i64 i, .int .u64 x] w fun e w' => e = .returned (.tuple #[]) ∧ RefIs lo hi w' rb q (upd A 3 i x) ∧ Stay lo hi w w' := by
  obtain ⟨V, X, c, t, s, h⟩ := h
  rw [h.a3] at hil
  obtain rfl : i = 0 := by simpa using hil
  have hf : w.frozen? ⟨rb, 15, none⟩ = false := h.r.bx.frozen 15
  have hc : w.cell? ⟨rb, 15, none⟩ = some (.int .u64 c) := h.r.bx.cell 15
  have far : ∀ k, k < 5 → OwnU (w.setCell ⟨rb, 15, none⟩ (.int .u64 x)) lo (V k) (X k) := fun k hk => own_far (h.r.own k hk) (h.r.row_ne hk) _
  have hR : Hid (Ref lo hi (w.setCell ⟨rb, 15, none⟩ (.int .u64 x)) rb q (upd A 3 0 x) V X x t s) := Lib.hid ⟨⟨h.r.bx.set_ 15 (.int .u64 x), far, h.r.ap, h.r.low⟩, h.bIn, h.rIn, by simpa [World.setCell] using h.top, by simp [upd, h.a1], by simp [upd, h.a2], by simp [upd, h.a3], by simp [upd, h.a4], by simp [upd, h.a5], by simp [upd, h.a6], by simp [upd, h.a7], by simp [upd, h.a8]⟩
  have hS := Lib.hid ((Stay.refl lo hi w).set_ ⟨rb, 15, none⟩ (.inl ⟨h.r.low, h.bIn⟩) (.int .u64 x))
  clear h hil far
  go_enter Try.func124, Try.ntmps124
  go_wp2
  go_end0
  exact ⟨rfl, ⟨_, _, _, _, _, hR.out⟩, hS.out⟩
theorem set4 (lo hi : Nat) (w : World) (rb : Nat) (q : Cfg) (A : Int → List Int) (h : RefIs lo hi w rb q A) (i : Nat) (hil : i < (A 4).length) (x : Int) : Calls Try.prog 124 #[.pointer (some ⟨rb, 0, none⟩), .int .i64 4, .int .i64 i, .int .u64 x] w fun e w' => e = .returned (.tuple #[]) ∧ RefIs lo hi w' rb q (upd A 4 i x) ∧ Stay lo hi w w' := by
  obtain ⟨V, X, c, t, s, h⟩ := h
  rw [h.a4] at hil
  obtain rfl : i = 0 := by simpa using hil
  have hf : w.frozen? ⟨rb, 16, none⟩ = false := h.r.bx.frozen 16
  have hc : w.cell? ⟨rb, 16, none⟩ = some (.int .u64 t) := h.r.bx.cell 16
  have far : ∀ k, k < 5 → OwnU (w.setCell ⟨rb, 16, none⟩ (.int .u64 x)) lo (V k) (X k) := fun k hk => own_far (h.r.own k hk) (h.r.row_ne hk) _
  have hR : Hid (Ref lo hi (w.setCell ⟨rb, 16, none⟩ (.int .u64 x)) rb q (upd A 4 0 x) V X c x s) := Lib.hid ⟨⟨h.r.bx.set_ 16 (.int .u64 x), far, h.r.ap, h.r.low⟩, h.bIn, h.rIn, by simpa [World.setCell] using h.top, by simp [upd, h.a1], by simp [upd, h.a2], by simp [upd, h.a3], by simp [upd, h.a4], by simp [upd, h.a5], by simp [upd, h.a6], by simp [upd, h.a7], by simp [upd, h.a8]⟩
  have hS := Lib.hid ((Stay.refl lo hi w).set_ ⟨rb, 16, none⟩ (.inl ⟨h.r.low, h.bIn⟩) (.int .u64 x))
  clear h hil far
  go_enter Try.func124, Try.ntmps124
  go_wp2
  go_end0
  exact ⟨rfl, ⟨_, _, _, _, _, hR.out⟩, hS.out⟩
theorem set5 (lo hi : Nat) (w : World) (rb : Nat) (q : Cfg) (A : Int → List Int) (h : RefIs lo hi w rb q A) (i : Nat) (hil : i < (A 5).length) (x : Int) : Calls Try.prog 124 #[.pointer (some ⟨rb, 0, none⟩), .int .i64 5, .int .i64 i, .int .u64 x] w fun e w' => e = .returned (.tuple #[]) ∧ RefIs lo hi w' rb q (upd A 5 i x) ∧ Stay lo hi w w' := by
  obtain ⟨V, X, c, t, s, h⟩ := h
  rw [h.a5] at hil
  obtain rfl : i = 0 := by simpa using hil
  have hf : w.frozen? ⟨rb, 17, none⟩ = false := h.r.bx.frozen 17
  have hc : w.cell? ⟨rb, 17, none⟩ = some (.int .u64 s) := h.r.bx.cell 17
  have far : ∀ k, k < 5 → OwnU (w.setCell ⟨rb, 17, none⟩ (.int .u64 x)) lo (V k) (X k) := fun k hk => own_far (h.r.own k hk) (h.r.row_ne hk) _
  have hR : Hid (Ref lo hi (w.setCell ⟨rb, 17, none⟩ (.int .u64 x)) rb q (upd A 5 0 x) V X c t x) := Lib.hid ⟨⟨h.r.bx.set_ 17 (.int .u64 x), far, h.r.ap, h.r.low⟩, h.bIn, h.rIn, by simpa [World.setCell] using h.top, by simp [upd, h.a1], by simp [upd, h.a2], by simp [upd, h.a3], by simp [upd, h.a4], by simp [upd, h.a5], by simp [upd, h.a6], by simp [upd, h.a7], by simp [upd, h.a8]⟩
  have hS := Lib.hid ((Stay.refl lo hi w).set_ ⟨rb, 17, none⟩ (.inl ⟨h.r.low, h.bIn⟩) (.int .u64 x))
  clear h hil far
  go_enter Try.func124, Try.ntmps124
  go_wp2
  go_end0
  exact ⟨rfl, ⟨_, _, _, _, _, hR.out⟩, hS.out⟩
theorem r_set (lo hi : Nat) (w : World) (rb : Nat) (q : Cfg) (A : Int → List Int) (h : RefIs lo hi w rb q A) (k : Int) (hk : 1 ≤ k ∧ k ≤ 8) (i : Nat) (hil : i < (A k).length) (x : Int) : Calls Try.prog 124 #[.pointer (some ⟨rb, 0, none⟩), .int .i64 k, .int .i64 i, .int .u64 x] w fun e w' => e = .returned (.tuple #[]) ∧ RefIs lo hi w' rb q (upd A k i x) ∧ Stay lo hi w w' := by
  have : k = 1 ∨ k = 2 ∨ k = 3 ∨ k = 4 ∨ k = 5 ∨ k = 6 ∨ k = 7 ∨ k = 8 := by omega
  rcases this with rfl | rfl | rfl | rfl | rfl | rfl | rfl | rfl
  · exact set1 lo hi w rb q A h i hil x
  · exact set2 lo hi w rb q A h i hil x
  · exact set3 lo hi w rb q A h i hil x
  · exact set4 lo hi w rb q A h i hil x
  · exact set5 lo hi w rb q A h i hil x
  · exact set6 lo hi w rb q A h i hil x
  · exact set7 lo hi w rb q A h i hil x
  · exact set8 lo hi w rb q A h i hil x
end Go.Proofs.Ytpjbmbipkmpkhaa.CelD
namespace Go.Proofs.Ytpjbmbipkmpkhaa.CelDo
open Go.ChangeShapes Go.WideShapes Go.ChangeAt Go.RowKit
open PlainT BlkW LayS LayA CelS CelM CelP CelV CelN CelO CelF CelZ CelC CelD
set_option linter.unusedVariables false
set_option maxHeartbeats 1000000
set_option maxRecDepth 100000
theorem r_do_set (lo hi : Nat) (w : World) (rb : Nat) (q : Cfg) (A : Int → List Int) (h : RefIs lo hi w rb q A) (kind k : Int) (hk : 1 ≤ k ∧ k ≤ 8) (i : Nat) (hil : i < (A k).length) (x v : Int) (hx : (A k).getD i 0 = x) : Calls Try.prog 107 #[.pointer (some ⟨rb, 0, none⟩), .int .i64 kind, .int .i64 k, .int .i64 i, .bool true, .int .u64 v] w fun e w' => e = .returned (accV kind k i x v true) ∧ RefIs lo hi w' rb q (upd A k i v) ∧ Stay lo hi w w' := by
  go_enter Try.func107, Try.ntmps107
  go_upto_region 1 with (fail)
  have HW0 := Lib.hid (below_new w (.cells #[.int .i64 0, .int .i64 0, .int .i64 0, .int .u64 0, .int .u64 0, .bool false] 62))
  have g1 := r_get lo hi _ rb q A (h.below HW0.out) k hk i hil x hx
  go_upto_region 2 with (go_at_call 14; refine g1.mono ?_; rintro e w1 ⟨rfl, rfl⟩)
  have M12 := Lib.hid (Mem.alloc (Mem.new w 62 #[.int .i64 0, .int .i64 0, .int .i64 0, .int .u64 0, .int .u64 0, .bool false]) (.cells #[.int .i64 kind, .int .i64 k, .int .i64 i, .int .u64 x, .int .u64 0, .bool true] 62))
  have M13 := Lib.hid (mem_new1 w (.cells #[.int .i64 0, .int .i64 0, .int .i64 0, .int .u64 0, .int .u64 0, .bool false] 62) 62 #[.int .i64 kind, .int .i64 k, .int .i64 i, .int .u64 x, .int .u64 0, .bool true])
  have H2 := Lib.hid (h.below (below_new2 w (.cells #[.int .i64 0, .int .i64 0, .int .i64 0, .int .u64 0, .int .u64 0, .bool false] 62) (.cells #[.int .i64 kind, .int .i64 k, .int .i64 i, .int .u64 x, .int .u64 0, .bool true] 62)))
  have S2 := Lib.hid (Stay.of_below (lo := lo) (hi := hi) (below_new2 w (.cells #[.int .i64 0, .int .i64 0, .int .i64 0, .int .u64 0, .int .u64 0, .bool false] 62) (.cells #[.int .i64 kind, .int .i64 k, .int .i64 i, .int .u64 x, .int .u64 0, .bool true] 62)))
  have htop := h.top
  obtain ⟨W2, hW2⟩ : ∃ W2, (w.alloc (.cells #[.int .i64 0, .int .i64 0, .int .i64 0, .int .u64 0, .int .u64 0, .bool false] 62)).alloc (.cells #[.int .i64 kind, .int .i64 k, .int .i64 i, .int .u64 x, .int .u64 0, .bool true] 62) = W2 := ⟨_, rfl⟩
  rw [hW2] at M12 M13 H2 S2 ⊢
  clear hW2 g1 HW0 h
  have hset := r_set lo hi W2 rb q A H2.out k hk i hil v
  go_upto_region 5 with (go_at_call 124; refine hset.mono ?_; rintro e w3 ⟨rfl, hR3, hS3⟩)
  have N12 := Lib.hid ((hS3.block w.heap.size M12.out.lt (.inr htop)).trans M12.out)
  have N13 := Lib.hid ((hS3.block (w.heap.size + 1) M13.out.lt (.inr (by omega))).trans M13.out)
  have S3 := Lib.hid (S2.out.trans hS3)
  have R3 := Lib.hid hR3
  have g3 := r_get lo hi w3 rb q (upd A k i v) hR3 k hk i (by rw [upd_len]; exact hil) v (by
    simp only [upd, if_pos]
    rw [List.getD_eq_getElem?_getD, List.getElem?_set_self hil]
    rfl)
  have f4 : w3.cell? ⟨w.heap.size + 1, 4, none⟩ = some (.int .u64 0) := Mem.cell (show Mem w3 (w.heap.size + 1) 62 #[.int .i64 kind, .int .i64 k, .int .i64 i, .int .u64 x, .int .u64 0, .bool true] from N13.out) 4
  have z4 : w3.frozen? ⟨w.heap.size + 1, 4, none⟩ = false := Mem.frozen (show Mem w3 (w.heap.size + 1) 62 #[.int .i64 kind, .int .i64 k, .int .i64 i, .int .u64 x, .int .u64 0, .bool true] from N13.out) 4
  clear hset hR3 hS3 M12 M13 H2 S2 hx
  go_upto_region 6 with (go_at_call 14; refine g3.mono ?_; rintro e w4 ⟨rfl, rfl⟩)
  have P13 : Mem (w3.setCell ⟨w.heap.size + 1, 4, none⟩ (.int .u64 v)) (w.heap.size + 1) 62 #[.int .i64 kind, .int .i64 k, .int .i64 i, .int .u64 x, .int .u64 v, .bool true] := Mem.set_ (show Mem w3 (w.heap.size + 1) 62 #[.int .i64 kind, .int .i64 k, .int .i64 i, .int .u64 x, .int .u64 0, .bool true] from N13.out) 4 (.int .u64 v)
  have P12 : Mem (w3.setCell ⟨w.heap.size + 1, 4, none⟩ (.int .u64 v)) w.heap.size 62 #[.int .i64 0, .int .i64 0, .int .i64 0, .int .u64 0, .int .u64 0, .bool false] := Mem.far (show Mem w3 w.heap.size 62 #[.int .i64 0, .int .i64 0, .int .i64 0, .int .u64 0, .int .u64 0, .bool false] from N12.out) (by show w.heap.size ≠ w.heap.size + 1; omega) _
  have S4 := Lib.hid (S3.out.set_ ⟨w.heap.size + 1, 4, none⟩ (.inr (Nat.le_succ _)) (.int .u64 v))
  have R4 := Lib.hid (R3.out.stay ((Stay.refl (w.heap.size + 1) (w.heap.size + 2) w3).set_ ⟨w.heap.size + 1, 4, none⟩ (.inl ⟨Nat.le_refl _, Nat.lt_succ_self _⟩) (.int .u64 v)) (.inl (by omega)))
  obtain ⟨W4, hW4⟩ : ∃ W4, w3.setCell ⟨w.heap.size + 1, 4, none⟩ (.int .u64 v) = W4 := ⟨_, rfl⟩
  rw [hW4] at P13 P12 S4 R4 ⊢
  have HP12 := Lib.hid P12
  have c0 := P13.cell 0
  have c1 := P13.cell 1
  have c2 := P13.cell 2
  have c3 := P13.cell 3
  have c4 := P13.cell 4
  have c5 := P13.cell 5
  have a0 := P12.cell 0
  have a1 := P12.cell 1
  have a2 := P12.cell 2
  have a3 := P12.cell 3
  have a4 := P12.cell 4
  have a5 := P12.cell 5
  have af := P12.frozen
  simp at c0 c1 c2 c3 c4 c5 a0 a1 a2 a3 a4 a5
  clear hW4 N12 N13 S3 R3 g3 f4 z4 P12 P13
  go_wp2
  obtain ⟨M5, S5⟩ := store6 HP12.out (.int .i64 kind) (.int .i64 k) (.int .i64 i) (.int .u64 x) (.int .u64 v) (.bool true)
  have R5 := R4.out.stay S5 (.inl (by omega))
  have S6 := Stay.over S4.out S5 (Nat.le_refl _)
  obtain ⟨V, hV⟩ : ∃ V, ((((((W4.setCell ⟨w.heap.size, 0, none⟩ (.int .i64 kind)).setCell ⟨w.heap.size, 1, none⟩ (.int .i64 k)).setCell ⟨w.heap.size, 2, none⟩ (.int .i64 i)).setCell ⟨w.heap.size, 3, none⟩ (.int .u64 x)).setCell ⟨w.heap.size, 4, none⟩ (.int .u64 v)).setCell ⟨w.heap.size, 5, none⟩ (.bool true)) = V := ⟨_, rfl⟩
  rw [hV] at M5 R5 S6 ⊢
  refine bodyPost_ret (v := accV kind k i x v true) (results_cell_row rfl _ _ w.heap.size 62 #[.int .i64 kind, .int .i64 k, .int .i64 i, .int .u64 x, .int .u64 v, .bool true] (0, 0) _ (by simp) M5 Try.underlying62 rfl (by kernel_rfl)) rfl ⟨rfl, R5, S6⟩
end Go.Proofs.Ytpjbmbipkmpkhaa.CelDo
