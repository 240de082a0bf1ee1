/-
  Contract of the reference of layer 8: set.
-/
import Derived.Test.YtcbhpoajpingcaaCelC
namespace Go.Proofs.Ytcbhpoajpingcaa.CelD
open Go.ChangeShapes Go.WideShapes Go.ChangeAt Go.RowKit
open PlainT BlkW LayS LayA CelS CelM CelV CelN CelF CelZ CelC
set_option linter.unusedVariables false
set_option maxHeartbeats 1000000
set_option maxRecDepth 100000
theorem set1 (lo hi : Nat) (w : World) (rb : Nat) (q : Cfg) (A : Int → List Int) (h : RefIs lo hi w rb q A) (i : Nat) (hil : i < (A 1).length) (x : Int) : Calls Try.prog 116 #[.pointer (some ⟨rb, 0, none⟩), .int .i64 1, .int .i64 i, .int .u64 x] w fun e w' => e = .returned (.tuple #[]) ∧ RefIs lo hi w' rb q (upd A 1 i x) ∧ Stay lo hi w w' := by
  obtain ⟨V, X, c, t, s, h⟩ := h
  rw [h.a1] at hil
  obtain ⟨rg, cp, cur, hv, hlo, _, _, hrc⟩ := own_cells (h.r.own 0 (by decide)) (by omega)
  have hb : w.cell? ⟨rb, 13, none⟩ = some (V 0) := h.r.bx.cell 13
  have hc : w.cell? ⟨rg, i, none⟩ = some (.int .u64 ((X 0)[i]'hil)) := by
    rw [hrc i (by omega)]
    unfold us
    rw [List.getElem?_map, List.getElem?_eq_getElem hil]
    rfl
  have hf : w.frozen? ⟨rg, i, none⟩ = false := by
    have := h.r.own 0 (by decide)
    rw [hv] at this
    exact World.ownsRow.frozenAt this i
  have hR := Lib.hid (ref_set h (k := 0) (by decide) hv i x)
  have hS := Lib.hid ((Stay.refl lo hi w).set_ ⟨rg, i, none⟩ (.inl ⟨hlo, h.rIn 0 (by decide) rg (by rw [hv]; rfl)⟩) (.int .u64 x))
  rw [hv] at hb
  obtain ⟨n, hn⟩ : ∃ n, (X 0).length = n := ⟨_, rfl⟩
  obtain ⟨y, hy⟩ : ∃ y, (X 0)[i]'hil = y := ⟨_, rfl⟩
  rw [hy] at hc
  rw [hn] at hb hil
  have hii : (i : Int) < n := by omega
  clear h hv hrc hy hn
  go_enter Try.func116, Try.ntmps116
  go_wp2
  go_end0
  exact ⟨rfl, ⟨_, _, _, _, _, hR.out⟩, hS.out⟩
theorem set2 (lo hi : Nat) (w : World) (rb : Nat) (q : Cfg) (A : Int → List Int) (h : RefIs lo hi w rb q A) (i : Nat) (hil : i < (A 2).length) (x : Int) : Calls Try.prog 116 #[.pointer (some ⟨rb, 0, none⟩), .int .i64 2, .int .i64 i, .int .u64 x] w fun e w' => e = .returned (.tuple #[]) ∧ RefIs lo hi w' rb q (upd A 2 i x) ∧ Stay lo hi w w' := by
  obtain ⟨V, X, c, t, s, h⟩ := h
  rw [h.a2] at hil
  obtain ⟨rg, cp, cur, hv, hlo, _, _, hrc⟩ := own_cells (h.r.own 1 (by decide)) (by omega)
  have hb : w.cell? ⟨rb, 14, none⟩ = some (V 1) := h.r.bx.cell 14
  have hc : w.cell? ⟨rg, i, none⟩ = some (.int .u64 ((X 1)[i]'hil)) := by
    rw [hrc i (by omega)]
    unfold us
    rw [List.getElem?_map, List.getElem?_eq_getElem hil]
    rfl
  have hf : w.frozen? ⟨rg, i, none⟩ = false := by
    have := h.r.own 1 (by decide)
    rw [hv] at this
    exact World.ownsRow.frozenAt this i
  have hR := Lib.hid (ref_set h (k := 1) (by decide) hv i x)
  have hS := Lib.hid ((Stay.refl lo hi w).set_ ⟨rg, i, none⟩ (.inl ⟨hlo, h.rIn 1 (by decide) rg (by rw [hv]; rfl)⟩) (.int .u64 x))
  rw [hv] at hb
  obtain ⟨n, hn⟩ : ∃ n, (X 1).length = n := ⟨_, rfl⟩
  obtain ⟨y, hy⟩ : ∃ y, (X 1)[i]'hil = y := ⟨_, rfl⟩
  rw [hy] at hc
  rw [hn] at hb hil
  have hii : (i : Int) < n := by omega
  clear h hv hrc hy hn
  go_enter Try.func116, Try.ntmps116
  go_wp2
  go_end0
  exact ⟨rfl, ⟨_, _, _, _, _, hR.out⟩, hS.out⟩
theorem set6 (lo hi : Nat) (w : World) (rb : Nat) (q : Cfg) (A : Int → List Int) (h : RefIs lo hi w rb q A) (i : Nat) (hil : i < (A 6).length) (x : Int) : Calls Try.prog 116 #[.pointer (some ⟨rb, 0, none⟩), .int .i64 6, .int .i64 i, .int .u64 x] w fun e w' => e = .returned (.tuple #[]) ∧ RefIs lo hi w' rb q (upd A 6 i x) ∧ Stay lo hi w w' := by
  obtain ⟨V, X, c, t, s, h⟩ := h
  rw [h.a6] at hil
  obtain ⟨rg, cp, cur, hv, hlo, _, _, hrc⟩ := own_cells (h.r.own 2 (by decide)) (by omega)
  have hb : w.cell? ⟨rb, 18, none⟩ = some (V 2) := h.r.bx.cell 18
  have hc : w.cell? ⟨rg, i, none⟩ = some (.int .u64 ((X 2)[i]'hil)) := by
    rw [hrc i (by omega)]
    unfold us
    rw [List.getElem?_map, List.getElem?_eq_getElem hil]
    rfl
  have hf : w.frozen? ⟨rg, i, none⟩ = false := by
    have := h.r.own 2 (by decide)
    rw [hv] at this
    exact World.ownsRow.frozenAt this i
  have hR := Lib.hid (ref_set h (k := 2) (by decide) hv i x)
  have hS := Lib.hid ((Stay.refl lo hi w).set_ ⟨rg, i, none⟩ (.inl ⟨hlo, h.rIn 2 (by decide) rg (by rw [hv]; rfl)⟩) (.int .u64 x))
  rw [hv] at hb
  obtain ⟨n, hn⟩ : ∃ n, (X 2).length = n := ⟨_, rfl⟩
  obtain ⟨y, hy⟩ : ∃ y, (X 2)[i]'hil = y := ⟨_, rfl⟩
  rw [hy] at hc
  rw [hn] at hb hil
  have hii : (i : Int) < n := by omega
  clear h hv hrc hy hn
  go_enter Try.func116, Try.ntmps116
  go_wp2
  go_end0
  exact ⟨rfl, ⟨_, _, _, _, _, hR.out⟩, hS.out⟩
theorem set7 (lo hi : Nat) (w : World) (rb : Nat) (q : Cfg) (A : Int → List Int) (h : RefIs lo hi w rb q A) (i : Nat) (hil : i < (A 7).length) (x : Int) : Calls Try.prog 116 #[.pointer (some ⟨rb, 0, none⟩), .int .i64 7, .int .i64 i, .int .u64 x] w fun e w' => e = .returned (.tuple #[]) ∧ RefIs lo hi w' rb q (upd A 7 i x) ∧ Stay lo hi w w' := by
  obtain ⟨V, X, c, t, s, h⟩ := h
  rw [h.a7] at hil
  obtain ⟨rg, cp, cur, hv, hlo, _, _, hrc⟩ := own_cells (h.r.own 3 (by decide)) (by omega)
  have hb : w.cell? ⟨rb, 19, none⟩ = some (V 3) := h.r.bx.cell 19
  have hc : w.cell? ⟨rg, i, none⟩ = some (.int .u64 ((X 3)[i]'hil)) := by
    rw [hrc i (by omega)]
    unfold us
    rw [List.getElem?_map, List.getElem?_eq_getElem hil]
    rfl
  have hf : w.frozen? ⟨rg, i, none⟩ = false := by
    have := h.r.own 3 (by decide)
    rw [hv] at this
    exact World.ownsRow.frozenAt this i
  have hR := Lib.hid (ref_set h (k := 3) (by decide) hv i x)
  have hS := Lib.hid ((Stay.refl lo hi w).set_ ⟨rg, i, none⟩ (.inl ⟨hlo, h.rIn 3 (by decide) rg (by rw [hv]; rfl)⟩) (.int .u64 x))
  rw [hv] at hb
  obtain ⟨n, hn⟩ : ∃ n, (X 3).length = n := ⟨_, rfl⟩
  obtain ⟨y, hy⟩ : ∃ y, (X 3)[i]'hil = y := ⟨_, rfl⟩
  rw [hy] at hc
  rw [hn] at hb hil
  have hii : (i : Int) < n := by omega
  clear h hv hrc hy hn
  go_enter Try.func116, Try.ntmps116
  go_wp2
  go_end0
  exact ⟨rfl, ⟨_, _, _, _, _, hR.out⟩, hS.out⟩
theorem set8 (lo hi : Nat) (w : World) (rb : Nat) (q : Cfg) (A : Int → List Int) (h : RefIs lo hi w rb q A) (i : Nat) (hil : i < (A 8).length) (x : Int) : Calls Try.prog 116 #[.pointer (some ⟨rb, 0, none⟩), .int .i64 8, .int .i64 i, .int .u64 x] w fun e w' => e = .returned (.tuple #[]) ∧ RefIs lo hi w' rb q (upd A 8 i x) ∧ Stay lo hi w w' := by
  obtain ⟨V, X, c, t, s, h⟩ := h
  rw [h.a8] at hil
  obtain ⟨rg, cp, cur, hv, hlo, _, _, hrc⟩ := own_cells (h.r.own 4 (by decide)) (by omega)
  have hb : w.cell? ⟨rb, 20, none⟩ = some (V 4) := h.r.bx.cell 20
  have hc : w.cell? ⟨rg, i, none⟩ = some (.int .u64 ((X 4)[i]'hil)) := by
    rw [hrc i (by omega)]
    unfold us
    rw [List.getElem?_map, List.getElem?_eq_getElem hil]
    rfl
  have hf : w.frozen? ⟨rg, i, none⟩ = false := by
    have := h.r.own 4 (by decide)
    rw [hv] at this
    exact World.ownsRow.frozenAt this i
  have hR := Lib.hid (ref_set h (k := 4) (by decide) hv i x)
  have hS := Lib.hid ((Stay.refl lo hi w).set_ ⟨rg, i, none⟩ (.inl ⟨hlo, h.rIn 4 (by decide) rg (by rw [hv]; rfl)⟩) (.int .u64 x))
  rw [hv] at hb
  obtain ⟨n, hn⟩ : ∃ n, (X 4).length = n := ⟨_, rfl⟩
  obtain ⟨y, hy⟩ : ∃ y, (X 4)[i]'hil = y := ⟨_, rfl⟩
  rw [hy] at hc
  rw [hn] at hb hil
  have hii : (i : Int) < n := by omega
  clear h hv hrc hy hn
  go_enter Try.func116, Try.ntmps116
  go_wp2
  go_end0
  exact ⟨rfl, ⟨_, _, _, _, _, hR.out⟩, hS.out⟩
theorem set3 (lo hi : Nat) (w : World) (rb : Nat) (q : Cfg) (A : Int → List Int) (h : RefIs lo hi w rb q A) (i : Nat) (hil : i < (A 3).length) (x : Int) : Calls Try.prog 116 #[.pointer (some ⟨rb, 0, none⟩), .int .i64 3, .int .i64 i, .int .u64 x] w fun e w' => e = .returned (.tuple #[]) ∧ RefIs lo hi w' rb q (upd A 3 i x) ∧ Stay lo hi w w' := by
  obtain ⟨V, X, c, t, s, h⟩ := h
  rw [h.a3] at hil
  obtain rfl : i = 0 := by simpa using hil
  have hf : w.frozen? ⟨rb, 15, none⟩ = false := h.r.bx.frozen 15
  have hc : w.cell? ⟨rb, 15, none⟩ = some (.int .u64 c) := h.r.bx.cell 15
  have far : ∀ k, k < 5 → OwnU (w.setCell ⟨rb, 15, none⟩ (.int .u64 x)) lo (V k) (X k) := fun k hk => own_far (h.r.own k hk) (h.r.row_ne hk) _
  have hR : Hid (Ref lo hi (w.setCell ⟨rb, 15, none⟩ (.int .u64 x)) rb q (upd A 3 0 x) V X x t s) := Lib.hid ⟨⟨h.r.bx.set_ 15 (.int .u64 x), far, h.r.ap, h.r.low⟩, h.bIn, h.rIn, by simpa [World.setCell] using h.top, by simp [upd, h.a1], by simp [upd, h.a2], by simp [upd, h.a3], by simp [upd, h.a4], by simp [upd, h.a5], by simp [upd, h.a6], by simp [upd, h.a7], by simp [upd, h.a8]⟩
  have hS := Lib.hid ((Stay.refl lo hi w).set_ ⟨rb, 15, none⟩ (.inl ⟨h.r.low, h.bIn⟩) (.int .u64 x))
  clear h hil far
  go_enter Try.func116, Try.ntmps116
  go_wp2
  go_end0
  exact ⟨rfl, ⟨_, _, _, _, _, hR.out⟩, hS.out⟩
theorem set4 (lo hi : Nat) (w : World) (rb : Nat) (q : Cfg) (A : Int → List Int) (h : RefIs lo hi w rb q A) (i : Nat) (hil : i < (A 4).length) (x : Int) : Calls Try.prog 116 #[.pointer (some ⟨rb, 0, none⟩), .int .i64 4, .int .i64 i, .int .u64 x] w fun e w' => e = .returned (.tuple #[]) ∧ RefIs lo hi w' rb q (upd A 4 i x) ∧ Stay lo hi w w' := by
  obtain ⟨V, X, c, t, s, h⟩ := h
  rw [h.a4] at hil
  obtain rfl : i = 0 := by simpa using hil
  have hf : w.frozen? ⟨rb, 16, none⟩ = false := h.r.bx.frozen 16
  have hc : w.cell? ⟨rb, 16, none⟩ = some (.int .u64 t) := h.r.bx.cell 16
  have far : ∀ k, k < 5 → OwnU (w.setCell ⟨rb, 16, none⟩ (.int .u64 x)) lo (V k) (X k) := fun k hk => own_far (h.r.own k hk) (h.r.row_ne hk) _
  have hR : Hid (Ref lo hi (w.setCell ⟨rb, 16, none⟩ (.int .u64 x)) rb q (upd A 4 0 x) V X c x s) := Lib.hid ⟨⟨h.r.bx.set_ 16 (.int .u64 x), far, h.r.ap, h.r.low⟩, h.bIn, h.rIn, by simpa [World.setCell] using h.top, by simp [upd, h.a1], by simp [upd, h.a2], by simp [upd, h.a3], by simp [upd, h.a4], by simp [upd, h.a5], by simp [upd, h.a6], by simp [upd, h.a7], by simp [upd, h.a8]⟩
  have hS := Lib.hid ((Stay.refl lo hi w).set_ ⟨rb, 16, none⟩ (.inl ⟨h.r.low, h.bIn⟩) (.int .u64 x))
  clear h hil far
  go_enter Try.func116, Try.ntmps116
  go_wp2
  go_end0
  exact ⟨rfl, ⟨_, _, _, _, _, hR.out⟩, hS.out⟩
theorem set5 (lo hi : Nat) (w : World) (rb : Nat) (q : Cfg) (A : Int → List Int) (h : RefIs lo hi w rb q A) (i : Nat) (hil : i < (A 5).length) (x : Int) : Calls Try.prog 116 #[.pointer (some ⟨rb, 0, none⟩), .int .i64 5, .int .i64 i, .int .u64 x] w fun e w' => e = .returned (.tuple #[]) ∧ RefIs lo hi w' rb q (upd A 5 i x) ∧ Stay lo hi w w' := by
  obtain ⟨V, X, c, t, s, h⟩ := h
  rw [h.a5] at hil
  obtain rfl : i = 0 := by simpa using hil
  have hf : w.frozen? ⟨rb, 17, none⟩ = false := h.r.bx.frozen 17
  have hc : w.cell? ⟨rb, 17, none⟩ = some (.int .u64 s) := h.r.bx.cell 17
  have far : ∀ k, k < 5 → OwnU (w.setCell ⟨rb, 17, none⟩ (.int .u64 x)) lo (V k) (X k) := fun k hk => own_far (h.r.own k hk) (h.r.row_ne hk) _
  have hR : Hid (Ref lo hi (w.setCell ⟨rb, 17, none⟩ (.int .u64 x)) rb q (upd A 5 0 x) V X c t x) := Lib.hid ⟨⟨h.r.bx.set_ 17 (.int .u64 x), far, h.r.ap, h.r.low⟩, h.bIn, h.rIn, by simpa [World.setCell] using h.top, by simp [upd, h.a1], by simp [upd, h.a2], by simp [upd, h.a3], by simp [upd, h.a4], by simp [upd, h.a5], by simp [upd, h.a6], by simp [upd, h.a7], by simp [upd, h.a8]⟩
  have hS := Lib.hid ((Stay.refl lo hi w).set_ ⟨rb, 17, none⟩ (.inl ⟨h.r.low, h.bIn⟩) (.int .u64 x))
  clear h hil far
  go_enter Try.func116, Try.ntmps116
  go_wp2
  go_end0
  exact ⟨rfl, ⟨_, _, _, _, _, hR.out⟩, hS.out⟩
theorem r_set (lo hi : Nat) (w : World) (rb : Nat) (q : Cfg) (A : Int → List Int) (h : RefIs lo hi w rb q A) (k : Int) (hk : 1 ≤ k ∧ k ≤ 8) (i : Nat) (hil : i < (A k).length) (x : Int) : Calls Try.prog 116 #[.pointer (some ⟨rb, 0, none⟩), .int .i64 k, .int .i64 i, .int .u64 x] w fun e w' => e = .returned (.tuple #[]) ∧ RefIs lo hi w' rb q (upd A k i x) ∧ Stay lo hi w w' := by
  have : k = 1 ∨ k = 2 ∨ k = 3 ∨ k = 4 ∨ k = 5 ∨ k = 6 ∨ k = 7 ∨ k = 8 := by omega
  rcases this with rfl | rfl | rfl | rfl | rfl | rfl | rfl | rfl
  · exact set1 lo hi w rb q A h i hil x
  · exact set2 lo hi w rb q A h i hil x
  · exact set3 lo hi w rb q A h i hil x
  · exact set4 lo hi w rb q A h i hil x
  · exact set5 lo hi w rb q A h i hil x
  · exact set6 lo hi w rb q A h i hil x
  · exact set7 lo hi w rb q A h i hil x
  · exact set8 lo hi w rb q A h i hil x
end Go.Proofs.Ytcbhpoajpingcaa.CelD
