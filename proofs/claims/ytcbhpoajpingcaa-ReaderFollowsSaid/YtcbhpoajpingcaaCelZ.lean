/-
  Contracts of the reference of layer 8: Size, Get.
-/
import Derived.Test.YtcbhpoajpingcaaCelF
namespace Go.Proofs.Ytcbhpoajpingcaa.CelZ
open Go.ChangeShapes Go.WideShapes Go.ChangeAt Go.RowKit
open PlainT BlkW LayS LayA CelS CelM CelV CelN CelF
set_option linter.unusedVariables false
set_option maxHeartbeats 1000000

set_option maxRecDepth 100000 in
theorem size1 (lo hi : Nat) (w : World) (rb : Nat) (q : Cfg) (A : Int → List Int) (h : RefIs lo hi w rb q A) : Calls Try.prog 15 #[.pointer (some ⟨rb, 0, none⟩), .int .i64 1] w fun e w' => e = .returned (.int .i64 (A 1).length) ∧ w = w' := by
  obtain ⟨V, X, c, t, s, h⟩ := h
  rw [h.a1]
  obtain ⟨a, cp, hv, _⟩ := own_slice (h.r.own 0 (by decide))
  have hb : w.cell? ⟨rb, 13, none⟩ = some (V 0) := h.r.bx.cell 13
  rw [hv] at hb
  clear h hv
  go_enter Try.func15, Try.ntmps15
  go_wp2
  go_ret
  exact ⟨rfl, rfl⟩
set_option maxRecDepth 100000 in
theorem size2 (lo hi : Nat) (w : World) (rb : Nat) (q : Cfg) (A : Int → List Int) (h : RefIs lo hi w rb q A) : Calls Try.prog 15 #[.pointer (some ⟨rb, 0, none⟩), .int .i64 2] w fun e w' => e = .returned (.int .i64 (A 2).length) ∧ w = w' := by
  obtain ⟨V, X, c, t, s, h⟩ := h
  rw [h.a2]
  obtain ⟨a, cp, hv, _⟩ := own_slice (h.r.own 1 (by decide))
  have hb : w.cell? ⟨rb, 14, none⟩ = some (V 1) := h.r.bx.cell 14
  rw [hv] at hb
  clear h hv
  go_enter Try.func15, Try.ntmps15
  go_wp2
  go_ret
  exact ⟨rfl, rfl⟩
set_option maxRecDepth 100000 in
theorem size3 (lo hi : Nat) (w : World) (rb : Nat) (q : Cfg) (A : Int → List Int) (h : RefIs lo hi w rb q A) : Calls Try.prog 15 #[.pointer (some ⟨rb, 0, none⟩), .int .i64 3] w fun e w' => e = .returned (.int .i64 (A 3).length) ∧ w = w' := by
  obtain ⟨V, X, c, t, s, h⟩ := h
  rw [h.a3]
  clear h
  go_enter Try.func15, Try.ntmps15
  go_wp2
  go_ret
  exact ⟨rfl, rfl⟩
set_option maxRecDepth 100000 in
theorem size4 (lo hi : Nat) (w : World) (rb : Nat) (q : Cfg) (A : Int → List Int) (h : RefIs lo hi w rb q A) : Calls Try.prog 15 #[.pointer (some ⟨rb, 0, none⟩), .int .i64 4] w fun e w' => e = .returned (.int .i64 (A 4).length) ∧ w = w' := by
  obtain ⟨V, X, c, t, s, h⟩ := h
  rw [h.a4]
  clear h
  go_enter Try.func15, Try.ntmps15
  go_wp2
  go_ret
  exact ⟨rfl, rfl⟩
set_option maxRecDepth 100000 in
theorem size5 (lo hi : Nat) (w : World) (rb : Nat) (q : Cfg) (A : Int → List Int) (h : RefIs lo hi w rb q A) : Calls Try.prog 15 #[.pointer (some ⟨rb, 0, none⟩), .int .i64 5] w fun e w' => e = .returned (.int .i64 (A 5).length) ∧ w = w' := by
  obtain ⟨V, X, c, t, s, h⟩ := h
  rw [h.a5]
  clear h
  go_enter Try.func15, Try.ntmps15
  go_wp2
  go_ret
  exact ⟨rfl, rfl⟩
set_option maxRecDepth 100000 in
theorem size6 (lo hi : Nat) (w : World) (rb : Nat) (q : Cfg) (A : Int → List Int) (h : RefIs lo hi w rb q A) : Calls Try.prog 15 #[.pointer (some ⟨rb, 0, none⟩), .int .i64 6] w fun e w' => e = .returned (.int .i64 (A 6).length) ∧ w = w' := by
  obtain ⟨V, X, c, t, s, h⟩ := h
  rw [h.a6]
  obtain ⟨a, cp, hv, _⟩ := own_slice (h.r.own 2 (by decide))
  have hb : w.cell? ⟨rb, 18, none⟩ = some (V 2) := h.r.bx.cell 18
  rw [hv] at hb
  clear h hv
  go_enter Try.func15, Try.ntmps15
  go_wp2
  go_ret
  exact ⟨rfl, rfl⟩
set_option maxRecDepth 100000 in
theorem size7 (lo hi : Nat) (w : World) (rb : Nat) (q : Cfg) (A : Int → List Int) (h : RefIs lo hi w rb q A) : Calls Try.prog 15 #[.pointer (some ⟨rb, 0, none⟩), .int .i64 7] w fun e w' => e = .returned (.int .i64 (A 7).length) ∧ w = w' := by
  obtain ⟨V, X, c, t, s, h⟩ := h
  rw [h.a7]
  obtain ⟨a, cp, hv, _⟩ := own_slice (h.r.own 3 (by decide))
  have hb : w.cell? ⟨rb, 19, none⟩ = some (V 3) := h.r.bx.cell 19
  rw [hv] at hb
  clear h hv
  go_enter Try.func15, Try.ntmps15
  go_wp2
  go_ret
  exact ⟨rfl, rfl⟩
set_option maxRecDepth 100000 in
theorem size8 (lo hi : Nat) (w : World) (rb : Nat) (q : Cfg) (A : Int → List Int) (h : RefIs lo hi w rb q A) : Calls Try.prog 15 #[.pointer (some ⟨rb, 0, none⟩), .int .i64 8] w fun e w' => e = .returned (.int .i64 (A 8).length) ∧ w = w' := by
  obtain ⟨V, X, c, t, s, h⟩ := h
  rw [h.a8]
  obtain ⟨a, cp, hv, _⟩ := own_slice (h.r.own 4 (by decide))
  have hb : w.cell? ⟨rb, 20, none⟩ = some (V 4) := h.r.bx.cell 20
  rw [hv] at hb
  clear h hv
  go_enter Try.func15, Try.ntmps15
  go_wp2
  go_ret
  exact ⟨rfl, rfl⟩
set_option maxRecDepth 100000 in
theorem size_no (w : World) (rb : Nat) (k : Int) (hk : ¬ (1 ≤ k ∧ k ≤ 8)) : Calls Try.prog 15 #[.pointer (some ⟨rb, 0, none⟩), .int .i64 k] w fun e w' => e = .returned (.int .i64 0) ∧ w = w' := by
  have k1 : (k == 1) = false := by rw [beq_eq_false_iff_ne]; omega
  have k2 : (k == 2) = false := by rw [beq_eq_false_iff_ne]; omega
  have k3 : (k == 3) = false := by rw [beq_eq_false_iff_ne]; omega
  have k4 : (k == 4) = false := by rw [beq_eq_false_iff_ne]; omega
  have k5 : (k == 5) = false := by rw [beq_eq_false_iff_ne]; omega
  have k6 : (k == 6) = false := by rw [beq_eq_false_iff_ne]; omega
  have k7 : (k == 7) = false := by rw [beq_eq_false_iff_ne]; omega
  have k8 : (k == 8) = false := by rw [beq_eq_false_iff_ne]; omega
  clear hk
  go_enter Try.func15, Try.ntmps15
  go_wp2
  go_ret
  exact ⟨rfl, rfl⟩
theorem r_size (lo hi : Nat) (w : World) (rb : Nat) (q : Cfg) (A : Int → List Int) (h : RefIs lo hi w rb q A) (hout : ∀ k, ¬ (1 ≤ k ∧ k ≤ 8) → A k = []) (k : Int) : Calls Try.prog 15 #[.pointer (some ⟨rb, 0, none⟩), .int .i64 k] w fun e w' => e = .returned (.int .i64 (A k).length) ∧ w = w' := by
  by_cases hk : 1 ≤ k ∧ k ≤ 8
  · have : k = 1 ∨ k = 2 ∨ k = 3 ∨ k = 4 ∨ k = 5 ∨ k = 6 ∨ k = 7 ∨ k = 8 := by omega
    rcases this with rfl | rfl | rfl | rfl | rfl | rfl | rfl | rfl
    · exact size1 lo hi w rb q A h
    · exact size2 lo hi w rb q A h
    · exact size3 lo hi w rb q A h
    · exact size4 lo hi w rb q A h
    · exact size5 lo hi w rb q A h
    · exact size6 lo hi w rb q A h
    · exact size7 lo hi w rb q A h
    · exact size8 lo hi w rb q A h
  · rw [hout k hk]
    exact size_no w rb k hk
set_option maxRecDepth 100000 in
theorem get1 (lo hi : Nat) (w : World) (rb : Nat) (q : Cfg) (A : Int → List Int) (h : RefIs lo hi w rb q A) (i : Nat) (hi : i < (A 1).length) (x : Int) (hx : (A 1).getD i 0 = x) : Calls Try.prog 16 #[.pointer (some ⟨rb, 0, none⟩), .int .i64 1, .int .i64 i] w fun e w' => e = .returned (.int .u64 x) ∧ w = w' := by
  obtain ⟨V, X, c, t, s, h⟩ := h
  rw [h.a1] at hi hx
  obtain ⟨rg, cp, cur, hv, _, _, _, hrc⟩ := own_cells (h.r.own 0 (by decide)) (by omega)
  have hb : w.cell? ⟨rb, 13, none⟩ = some (V 0) := h.r.bx.cell 13
  have hc : w.cell? ⟨rg, i, none⟩ = some (.int .u64 x) := by
    rw [hrc i (by omega)]
    unfold us
    rw [List.getElem?_map, List.getElem?_eq_getElem hi, ← hx, List.getD_eq_getElem?_getD, List.getElem?_eq_getElem hi]
    rfl
  rw [hv] at hb
  obtain ⟨n, hn⟩ : ∃ n, (X 0).length = n := ⟨_, rfl⟩
  rw [hn] at hi hb
  have hii : (i : Int) < n := by omega
  have hll : n ≤ cp ∨ True := .inr trivial
  clear h hv hrc hn hx hll
  go_enter Try.func16, Try.ntmps16
  go_wp2
  go_ret
  exact ⟨rfl, rfl⟩
set_option maxRecDepth 100000 in
theorem get2 (lo hi : Nat) (w : World) (rb : Nat) (q : Cfg) (A : Int → List Int) (h : RefIs lo hi w rb q A) (i : Nat) (hi : i < (A 2).length) (x : Int) (hx : (A 2).getD i 0 = x) : Calls Try.prog 16 #[.pointer (some ⟨rb, 0, none⟩), .int .i64 2, .int .i64 i] w fun e w' => e = .returned (.int .u64 x) ∧ w = w' := by
  obtain ⟨V, X, c, t, s, h⟩ := h
  rw [h.a2] at hi hx
  obtain ⟨rg, cp, cur, hv, _, _, _, hrc⟩ := own_cells (h.r.own 1 (by decide)) (by omega)
  have hb : w.cell? ⟨rb, 14, none⟩ = some (V 1) := h.r.bx.cell 14
  have hc : w.cell? ⟨rg, i, none⟩ = some (.int .u64 x) := by
    rw [hrc i (by omega)]
    unfold us
    rw [List.getElem?_map, List.getElem?_eq_getElem hi, ← hx, List.getD_eq_getElem?_getD, List.getElem?_eq_getElem hi]
    rfl
  rw [hv] at hb
  obtain ⟨n, hn⟩ : ∃ n, (X 1).length = n := ⟨_, rfl⟩
  rw [hn] at hi hb
  have hii : (i : Int) < n := by omega
  have hll : n ≤ cp ∨ True := .inr trivial
  clear h hv hrc hn hx hll
  go_enter Try.func16, Try.ntmps16
  go_wp2
  go_ret
  exact ⟨rfl, rfl⟩
set_option maxRecDepth 100000 in
theorem get3 (lo hi : Nat) (w : World) (rb : Nat) (q : Cfg) (A : Int → List Int) (h : RefIs lo hi w rb q A) (i : Nat) (hi : i < (A 3).length) (x : Int) (hx : (A 3).getD i 0 = x) : Calls Try.prog 16 #[.pointer (some ⟨rb, 0, none⟩), .int .i64 3, .int .i64 i] w fun e w' => e = .returned (.int .u64 x) ∧ w = w' := by
  obtain ⟨V, X, c, t, s, h⟩ := h
  rw [h.a3] at hi hx
  have hb : w.cell? ⟨rb, 15, none⟩ = some (.int .u64 c) := h.r.bx.cell 15
  have hi0 : i = 0 := by simpa using hi
  subst hi0
  have hx' : c = x := by simpa using hx
  subst hx'
  clear h hx hi
  go_enter Try.func16, Try.ntmps16
  go_wp2
  go_ret
  exact ⟨rfl, rfl⟩
set_option maxRecDepth 100000 in
theorem get4 (lo hi : Nat) (w : World) (rb : Nat) (q : Cfg) (A : Int → List Int) (h : RefIs lo hi w rb q A) (i : Nat) (hi : i < (A 4).length) (x : Int) (hx : (A 4).getD i 0 = x) : Calls Try.prog 16 #[.pointer (some ⟨rb, 0, none⟩), .int .i64 4, .int .i64 i] w fun e w' => e = .returned (.int .u64 x) ∧ w = w' := by
  obtain ⟨V, X, c, t, s, h⟩ := h
  rw [h.a4] at hi hx
  have hb : w.cell? ⟨rb, 16, none⟩ = some (.int .u64 t) := h.r.bx.cell 16
  have hi0 : i = 0 := by simpa using hi
  subst hi0
  have hx' : t = x := by simpa using hx
  subst hx'
  clear h hx hi
  go_enter Try.func16, Try.ntmps16
  go_wp2
  go_ret
  exact ⟨rfl, rfl⟩
set_option maxRecDepth 100000 in
theorem get5 (lo hi : Nat) (w : World) (rb : Nat) (q : Cfg) (A : Int → List Int) (h : RefIs lo hi w rb q A) (i : Nat) (hi : i < (A 5).length) (x : Int) (hx : (A 5).getD i 0 = x) : Calls Try.prog 16 #[.pointer (some ⟨rb, 0, none⟩), .int .i64 5, .int .i64 i] w fun e w' => e = .returned (.int .u64 x) ∧ w = w' := by
  obtain ⟨V, X, c, t, s, h⟩ := h
  rw [h.a5] at hi hx
  have hb : w.cell? ⟨rb, 17, none⟩ = some (.int .u64 s) := h.r.bx.cell 17
  have hi0 : i = 0 := by simpa using hi
  subst hi0
  have hx' : s = x := by simpa using hx
  subst hx'
  clear h hx hi
  go_enter Try.func16, Try.ntmps16
  go_wp2
  go_ret
  exact ⟨rfl, rfl⟩
set_option maxRecDepth 100000 in
theorem get6 (lo hi : Nat) (w : World) (rb : Nat) (q : Cfg) (A : Int → List Int) (h : RefIs lo hi w rb q A) (i : Nat) (hi : i < (A 6).length) (x : Int) (hx : (A 6).getD i 0 = x) : Calls Try.prog 16 #[.pointer (some ⟨rb, 0, none⟩), .int .i64 6, .int .i64 i] w fun e w' => e = .returned (.int .u64 x) ∧ w = w' := by
  obtain ⟨V, X, c, t, s, h⟩ := h
  rw [h.a6] at hi hx
  obtain ⟨rg, cp, cur, hv, _, _, _, hrc⟩ := own_cells (h.r.own 2 (by decide)) (by omega)
  have hb : w.cell? ⟨rb, 18, none⟩ = some (V 2) := h.r.bx.cell 18
  have hc : w.cell? ⟨rg, i, none⟩ = some (.int .u64 x) := by
    rw [hrc i (by omega)]
    unfold us
    rw [List.getElem?_map, List.getElem?_eq_getElem hi, ← hx, List.getD_eq_getElem?_getD, List.getElem?_eq_getElem hi]
    rfl
  rw [hv] at hb
  obtain ⟨n, hn⟩ : ∃ n, (X 2).length = n := ⟨_, rfl⟩
  rw [hn] at hi hb
  have hii : (i : Int) < n := by omega
  have hll : n ≤ cp ∨ True := .inr trivial
  clear h hv hrc hn hx hll
  go_enter Try.func16, Try.ntmps16
  go_wp2
  go_ret
  exact ⟨rfl, rfl⟩
set_option maxRecDepth 100000 in
theorem get7 (lo hi : Nat) (w : World) (rb : Nat) (q : Cfg) (A : Int → List Int) (h : RefIs lo hi w rb q A) (i : Nat) (hi : i < (A 7).length) (x : Int) (hx : (A 7).getD i 0 = x) : Calls Try.prog 16 #[.pointer (some ⟨rb, 0, none⟩), .int .i64 7, .int .i64 i] w fun e w' => e = .returned (.int .u64 x) ∧ w = w' := by
  obtain ⟨V, X, c, t, s, h⟩ := h
  rw [h.a7] at hi hx
  obtain ⟨rg, cp, cur, hv, _, _, _, hrc⟩ := own_cells (h.r.own 3 (by decide)) (by omega)
  have hb : w.cell? ⟨rb, 19, none⟩ = some (V 3) := h.r.bx.cell 19
  have hc : w.cell? ⟨rg, i, none⟩ = some (.int .u64 x) := by
    rw [hrc i (by omega)]
    unfold us
    rw [List.getElem?_map, List.getElem?_eq_getElem hi, ← hx, List.getD_eq_getElem?_getD, List.getElem?_eq_getElem hi]
    rfl
  rw [hv] at hb
  obtain ⟨n, hn⟩ : ∃ n, (X 3).length = n := ⟨_, rfl⟩
  rw [hn] at hi hb
  have hii : (i : Int) < n := by omega
  have hll : n ≤ cp ∨ True := .inr trivial
  clear h hv hrc hn hx hll
  go_enter Try.func16, Try.ntmps16
  go_wp2
  go_ret
  exact ⟨rfl, rfl⟩
set_option maxRecDepth 100000 in
theorem get8 (lo hi : Nat) (w : World) (rb : Nat) (q : Cfg) (A : Int → List Int) (h : RefIs lo hi w rb q A) (i : Nat) (hi : i < (A 8).length) (x : Int) (hx : (A 8).getD i 0 = x) : Calls Try.prog 16 #[.pointer (some ⟨rb, 0, none⟩), .int .i64 8, .int .i64 i] w fun e w' => e = .returned (.int .u64 x) ∧ w = w' := by
  obtain ⟨V, X, c, t, s, h⟩ := h
  rw [h.a8] at hi hx
  obtain ⟨rg, cp, cur, hv, _, _, _, hrc⟩ := own_cells (h.r.own 4 (by decide)) (by omega)
  have hb : w.cell? ⟨rb, 20, none⟩ = some (V 4) := h.r.bx.cell 20
  have hc : w.cell? ⟨rg, i, none⟩ = some (.int .u64 x) := by
    rw [hrc i (by omega)]
    unfold us
    rw [List.getElem?_map, List.getElem?_eq_getElem hi, ← hx, List.getD_eq_getElem?_getD, List.getElem?_eq_getElem hi]
    rfl
  rw [hv] at hb
  obtain ⟨n, hn⟩ : ∃ n, (X 4).length = n := ⟨_, rfl⟩
  rw [hn] at hi hb
  have hii : (i : Int) < n := by omega
  have hll : n ≤ cp ∨ True := .inr trivial
  clear h hv hrc hn hx hll
  go_enter Try.func16, Try.ntmps16
  go_wp2
  go_ret
  exact ⟨rfl, rfl⟩
theorem r_get (lo hi : Nat) (w : World) (rb : Nat) (q : Cfg) (A : Int → List Int) (h : RefIs lo hi w rb q A) (k : Int) (hk : 1 ≤ k ∧ k ≤ 8) (i : Nat) (hil : i < (A k).length) (x : Int) (hx : (A k).getD i 0 = x) : Calls Try.prog 16 #[.pointer (some ⟨rb, 0, none⟩), .int .i64 k, .int .i64 i] w fun e w' => e = .returned (.int .u64 x) ∧ w = w' := by
  have : k = 1 ∨ k = 2 ∨ k = 3 ∨ k = 4 ∨ k = 5 ∨ k = 6 ∨ k = 7 ∨ k = 8 := by omega
  rcases this with rfl | rfl | rfl | rfl | rfl | rfl | rfl | rfl
  · exact get1 lo hi w rb q A h i hil x hx
  · exact get2 lo hi w rb q A h i hil x hx
  · exact get3 lo hi w rb q A h i hil x hx
  · exact get4 lo hi w rb q A h i hil x hx
  · exact get5 lo hi w rb q A h i hil x hx
  · exact get6 lo hi w rb q A h i hil x hx
  · exact get7 lo hi w rb q A h i hil x hx
  · exact get8 lo hi w rb q A h i hil x hx
end Go.Proofs.Ytcbhpoajpingcaa.CelZ
