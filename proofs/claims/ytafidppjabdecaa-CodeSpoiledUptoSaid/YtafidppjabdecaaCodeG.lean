/-
  Contracts of the reader of package code: instructions, lists.
-/
import Derived.Test.YtafidppjabdecaaCodeF
namespace Go.Proofs.Ytafidppjabdecaa.CodeG
open Go.ChangeShapes Go.WideShapes Go.ChangeAt Go.RowKit
open PlainT BlkW LawFrame CodeS CodeW CodeA CodeE CodeF
set_option linter.unusedVariables false
set_option maxHeartbeats 1000000

section
variable {α : Type} {f : List Int → Option (α × List Int)}
theorem rN_none {n : Nat} {l : List Int} (h : f l = none) : rN f (n + 1) l = none := by rw [rN, h]; rfl
theorem rN_some {n : Nat} {l l' : List Int} {x : α} (h : f l = some (x, l')) : rN f (n + 1) l = (rN f n l').map fun y => (x :: y.1, y.2) := by rw [rN, h]; rfl
/-- xs has been read of the n elements from l on; what is left is l'. -/
def Part (f : List Int → Option (α × List Int)) (n : Nat) (l : List Int) (xs : List α) (l' : List Int) : Prop := xs.length ≤ n ∧ rN f n l = (rN f (n - xs.length) l').map fun y => (xs ++ y.1, y.2)
theorem Part.start (n : Nat) (l : List Int) : Part f n l [] l := ⟨Nat.zero_le _, by simp⟩
theorem Part.no {n : Nat} {l l' : List Int} {xs : List α} (h : Part f n l xs l') (hl : xs.length < n) (hn : f l' = none) : rN f n l = none := by
  rw [h.2]
  obtain ⟨m, hm⟩ : ∃ m, n - xs.length = m + 1 := ⟨n - xs.length - 1, by omega⟩
  rw [hm, rN_none hn]
  rfl
theorem Part.step {n : Nat} {l l' l'' : List Int} {xs : List α} {x : α} (h : Part f n l xs l') (hl : xs.length < n) (hs : f l' = some (x, l'')) : Part f n l (xs ++ [x]) l'' := by
  refine ⟨by simp; omega, ?_⟩
  rw [h.2]
  obtain ⟨m, hm⟩ : ∃ m, n - xs.length = m + 1 := ⟨n - xs.length - 1, by omega⟩
  rw [hm, rN_some hs, show n - (xs ++ [x]).length = m by simp; omega, Option.map_map]
  congr 1
  funext y
  simp
theorem Part.all {n : Nat} {l l' : List Int} {xs : List α} (h : Part f n l xs l') (hl : xs.length = n) : rN f n l = some (xs, l') := by
  rw [h.2, hl, Nat.sub_self]
  simp [rN]
end
/-- Each number takes a byte or more. -/
theorem rdU_lt : ∀ (l : List Int) (k : Nat) (acc x : Int) (r : List Int), rdU k acc l = some (x, r) → r.length < l.length := by
  intro l
  induction l with
  | nil => intro k acc x r h; simp [rdU] at h
  | cons b t ih =>
    intro k acc x r h
    simp only [rdU] at h
    split at h
    · split at h
      · split at h
        · cases h
        · injection h with h
          injection h with _ h
          subst h
          simp
      · have := ih _ _ _ _ h
        simp only [List.length_cons]
        omega
    · cases h
theorem rU_lt {l r : List Int} {x : Int} (h : rU l = some (x, r)) : r.length < l.length := rdU_lt l 0 0 x r h
theorem rS_lt {l r : List Int} {x : Int} (h : rS l = some (x, r)) : r.length < l.length := by
  unfold rS at h
  rw [Option.map_eq_some_iff] at h
  obtain ⟨⟨y, r'⟩, h1, h2⟩ := h
  simp only [Prod.mk.injEq] at h2
  obtain ⟨_, rfl⟩ := h2
  exact rU_lt h1
theorem rN_le {α : Type} {f : List Int → Option (α × List Int)} (hf : ∀ l r x, f l = some (x, r) → r.length < l.length) : ∀ (n : Nat) (l r : List Int) (xs : List α), rN f n l = some (xs, r) → r.length + n ≤ l.length ∧ xs.length = n := by
  intro n
  induction n with
  | zero => intro l r xs h; simp [rN] at h; obtain ⟨rfl, rfl⟩ := h; simp
  | succ n ih =>
    intro l r xs h
    simp only [rN, Option.bind_eq_some_iff, Option.map_eq_some_iff, Prod.mk.injEq] at h
    obtain ⟨⟨x, l1⟩, h1, ⟨ys, l2⟩, h2, rfl, rfl⟩ := h
    have a := hf _ _ _ h1
    have b := ih _ _ _ h2
    simp only [List.length_cons] at b ⊢
    omega
theorem rI_lt {l r : List Int} {x : List Int} (h : rI l = some (x, r)) : r.length < l.length := by
  have := rN_le (fun _ _ _ => rS_lt) 5 l r x h
  omega
theorem rL_lt {α : Type} {f : List Int → Option (α × List Int)} (hf : ∀ l r x, f l = some (x, r) → r.length < l.length) {l r : List Int} {x : List α} (h : rL f l = some (x, r)) : r.length < l.length := by
  unfold rL at h
  rw [Option.bind_eq_some_iff] at h
  obtain ⟨⟨n, l1⟩, h1, h2⟩ := h
  have a := rU_lt h1
  have b := rN_le hf _ _ _ _ h2
  simp only at b
  omega
theorem rP_lt {l r : List Int} {x : List (List Int)} (h : rP l = some (x, r)) : r.length < l.length := rL_lt (fun _ _ _ => rI_lt) h

/-! ### An instruction. -/
def IIs (B g : Nat) (w : World) (l : List Int) (e : Ending) (w' : World) : Prop :=
  Fr TR B w w' ∧ ((rI l = none ∧ Fails e) ∨ ∃ x0 x1 x2 x3 x4 l', rI l = some ([x0, x1, x2, x3, x4], l') ∧ e = .returned (.agg #[.int .i64 x0, .int .i64 x1, .int .i64 x2, .int .i64 x3, .int .i64 x4]) ∧ Rd B w' g l')
set_option maxHeartbeats 4000000 in
set_option maxRecDepth 100000 in
theorem a_instr (B g : Nat) (l : List Int) (w : World) (h : Rd B w g l) : Calls Try.prog 46 #[.pointer (some ⟨g, 0, none⟩)] w fun e w' => IIs B g w l e w' := by
  have hB := h.2.1
  have r0 := h.alloc (.cells #[.int .i64 0, .int .i64 0, .int .i64 0, .int .i64 0, .int .i64 0] 75)
  have F0 := Lib.hid (fr_newR hB (.cells #[.int .i64 0, .int .i64 0, .int .i64 0, .int .i64 0, .int .i64 0] 75))
  have m0 := Mem.new w 75 #[.int .i64 0, .int .i64 0, .int .i64 0, .int .i64 0, .int .i64 0]
  have P0 := Part.start (f := rS) 5 l
  have M0 := Lib.hid m0
  clear m0
  go_enter Try.func46, Try.ntmps46
  go_wp2_with fail
  cases h0 : rS l with
  | none =>
    have HN := Lib.hid (show rI l = none from P0.no (by simp) h0)
    refine (s_no r0 h0).mono ?_
    rintro e w1 ⟨rfl, hf⟩
    exact ⟨rfl, F0.out.trans hf, .inl ⟨HN.out, rfl⟩⟩
  | some y =>
  obtain ⟨x0, l1⟩ := y
  have P1 := P0.step (by simp) h0
  refine (s_yes r0 h0).mono ?_
  rintro e w1 ⟨rfl, r1, hf1⟩
  have F1 := Lib.hid (F0.out.trans hf1)
  have M1 := Lib.hid (Mem.fr M0.out hf1 (by unfold TR; decide))
  clear h0 hf1 r0
  go_wp2_with fail
  cases h1 : rS l1 with
  | none =>
    have HN := Lib.hid (show rI l = none from P1.no (by simp) h1)
    refine (s_no r1 h1).mono ?_
    rintro e w2 ⟨rfl, hf⟩
    exact ⟨rfl, F1.out.trans hf, .inl ⟨HN.out, rfl⟩⟩
  | some y =>
  obtain ⟨x1, l2⟩ := y
  have P2 := P1.step (by simp) h1
  refine (s_yes r1 h1).mono ?_
  rintro e w2 ⟨rfl, r2, hf2⟩
  have F2 := Lib.hid (F1.out.trans hf2)
  have M2 := Lib.hid (Mem.fr M1.out hf2 (by unfold TR; decide))
  clear h1 hf2 r1
  go_wp2_with fail
  cases h2 : rS l2 with
  | none =>
    have HN := Lib.hid (show rI l = none from P2.no (by simp) h2)
    refine (s_no r2 h2).mono ?_
    rintro e w3 ⟨rfl, hf⟩
    exact ⟨rfl, F2.out.trans hf, .inl ⟨HN.out, rfl⟩⟩
  | some y =>
  obtain ⟨x2, l3⟩ := y
  have P3 := P2.step (by simp) h2
  refine (s_yes r2 h2).mono ?_
  rintro e w3 ⟨rfl, r3, hf3⟩
  have F3 := Lib.hid (F2.out.trans hf3)
  have M3 := Lib.hid (Mem.fr M2.out hf3 (by unfold TR; decide))
  clear h2 hf3 r2
  go_wp2_with fail
  cases h3 : rS l3 with
  | none =>
    have HN := Lib.hid (show rI l = none from P3.no (by simp) h3)
    refine (s_no r3 h3).mono ?_
    rintro e w4 ⟨rfl, hf⟩
    exact ⟨rfl, F3.out.trans hf, .inl ⟨HN.out, rfl⟩⟩
  | some y =>
  obtain ⟨x3, l4⟩ := y
  have P4 := P3.step (by simp) h3
  refine (s_yes r3 h3).mono ?_
  rintro e w4 ⟨rfl, r4, hf4⟩
  have F4 := Lib.hid (F3.out.trans hf4)
  have M4 := Lib.hid (Mem.fr M3.out hf4 (by unfold TR; decide))
  clear h3 hf4 r3
  go_wp2_with fail
  cases h4 : rS l4 with
  | none =>
    have HN := Lib.hid (show rI l = none from P4.no (by simp) h4)
    refine (s_no r4 h4).mono ?_
    rintro e w5 ⟨rfl, hf⟩
    exact ⟨rfl, F4.out.trans hf, .inl ⟨HN.out, rfl⟩⟩
  | some y =>
  obtain ⟨x4, l5⟩ := y
  have P5 := P4.step (by simp) h4
  refine (s_yes r4 h4).mono ?_
  rintro e w5 ⟨rfl, r5, hf5⟩
  have F5 := Lib.hid (F4.out.trans hf5)
  have M5 := Lib.hid (Mem.fr M4.out hf5 (by unfold TR; decide))
  clear h4 hf5 r4
  have HP := Lib.hid (show rI l = some ([x0, x1, x2, x3, x4], l5) from P5.all rfl)
  have hfz := M5.out.frozen
  have c0 : w5.cell? ⟨w.heap.size, 0, none⟩ = some (.int .i64 0) := M5.out.cell 0
  have c1 : w5.cell? ⟨w.heap.size, 1, none⟩ = some (.int .i64 0) := M5.out.cell 1
  have c2 : w5.cell? ⟨w.heap.size, 2, none⟩ = some (.int .i64 0) := M5.out.cell 2
  have c3 : w5.cell? ⟨w.heap.size, 3, none⟩ = some (.int .i64 0) := M5.out.cell 3
  have c4 : w5.cell? ⟨w.heap.size, 4, none⟩ = some (.int .i64 0) := M5.out.cell 4
  clear P0 P1 P2 P3 P4 P5
  have hgl : g < w.heap.size := by obtain ⟨_, _, _, _, _, _, hm, _⟩ := h; exact hm.lt
  have Y := Lib.hid (((((M5.out.set_ 0 (.int .i64 x0)).set_ 1 (.int .i64 x1)).set_ 2 (.int .i64 x2)).set_ 3 (.int .i64 x3)).set_ 4 (.int .i64 x4))
  have hR := Lib.hid (((((r5.far (p := ⟨w.heap.size, 0, none⟩) hB (by show g ≠ w.heap.size; omega) (.int .i64 x0)).far (p := ⟨w.heap.size, 1, none⟩) hB (by show g ≠ w.heap.size; omega) (.int .i64 x1)).far (p := ⟨w.heap.size, 2, none⟩) hB (by show g ≠ w.heap.size; omega) (.int .i64 x2)).far (p := ⟨w.heap.size, 3, none⟩) hB (by show g ≠ w.heap.size; omega) (.int .i64 x3)).far (p := ⟨w.heap.size, 4, none⟩) hB (by show g ≠ w.heap.size; omega) (.int .i64 x4))
  have hF := Lib.hid ((((((F5.out.setNew (p := ⟨w.heap.size, 0, none⟩) hB (Nat.le_refl _) (.int .i64 x0)).setNew (p := ⟨w.heap.size, 1, none⟩) hB (Nat.le_refl _) (.int .i64 x1)).setNew (p := ⟨w.heap.size, 2, none⟩) hB (Nat.le_refl _) (.int .i64 x2)).setNew (p := ⟨w.heap.size, 3, none⟩) hB (Nat.le_refl _) (.int .i64 x3)).setNew (p := ⟨w.heap.size, 4, none⟩) hB (Nat.le_refl _) (.int .i64 x4)))
  clear r5
  go_wp2
  refine bodyPost_ret (v := .agg #[.int .i64 x0, .int .i64 x1, .int .i64 x2, .int .i64 x3, .int .i64 x4]) ?_ rfl ⟨hF.out, .inr ⟨_, _, _, _, _, _, HP.out, rfl, hR.out⟩⟩
  have y0 := Y.out.cell 0
  have y1 := Y.out.cell 1
  have y2 := Y.out.cell 2
  have y3 := Y.out.cell 3
  have y4 := Y.out.cell 4
  simp at y0 y1 y2 y3 y4
  simp [results, Try.results46, go_sem, y0, y1, y2, y3, y4]
end Go.Proofs.Ytafidppjabdecaa.CodeG
