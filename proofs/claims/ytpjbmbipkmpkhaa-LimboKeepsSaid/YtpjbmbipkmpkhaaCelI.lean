/-
  Contract of slices.Clone of words; what stands while Image's region runs.
-/
import Derived.Test.YtpjbmbipkmpkhaaCelO
import Derived.Test.YtpjbmbipkmpkhaaCelV
import Derived.Test.YtpjbmbipkmpkhaaCelN
namespace Go.Proofs.Ytpjbmbipkmpkhaa.CelI
open Go.ChangeShapes Go.WideShapes Go.ChangeAt Go.RowKit Go.MuLone
open PlainT BlkW CelS CelM CelP CelV CelN CelO
set_option linter.unusedVariables false
set_option maxHeartbeats 1000000

theorem row_src {w : World} {g : Nat} {xs : List Int} (h : Row w g xs) : Src w (.slice (some ⟨g, 0, none⟩) xs.length xs.length) xs := by
  refine ⟨g, 0, _, rfl, fun j x hj => ?_⟩
  have hjl : j < xs.length := (List.getElem?_eq_some_iff.1 hj).1
  rw [Nat.zero_add, Row.cell h j hjl, List.getD_eq_getElem?_getD, hj]
  rfl
set_option maxRecDepth 100000 in
theorem run_clone {w : World} {v : Value} {xs : List Int} (hs : Src w v xs) (hl : xs.length ≤ 1000) : ∃ A c w1, (Builtin.append_ #[TR, TR] TR #[.slice (some ⟨w.heap.size, 0, none⟩) 0 0, v]).run Try.prog (w.alloc (.cells #[] TU)) = .ok (.slice A xs.length c) w1 ∧ OwnU w1 w.heap.size (.slice A xs.length c) xs ∧ Below w.heap.size w w1 := by
  obtain ⟨i0, hi, hz0, hz1, hz2⟩ := info_parts info_u
  obtain ⟨g, o, cap, rfl, hc⟩ := hs
  have hown : (w.alloc (.cells #[] TU)).ownsRow w.heap.size TU 1 (.slice (some ⟨w.heap.size, 0, none⟩) 0 0) 0 [] := World.ownsRow_made w #[] 0 (Nat.le_refl _) (by unfold maxLen; omega) rfl
  obtain ⟨v', w', hrun, hown', hgr, _⟩ := run_append_own (P := Try.prog) (w := w.alloc (.cells #[] TU)) w.heap.size TR TR TU i0 _ 1 8 Try.underlying37 hi hz0 hz1 hz2 rfl (by decide) _ 0 [] hown ⟨g, o, none⟩ xs.length cap (us xs) (by simp [us]) (by
      intro j u hj
      unfold us at hj
      rw [List.getElem?_map] at hj
      cases hx : xs[j]? with
      | none => rw [hx] at hj; cases hj
      | some y =>
        rw [hx] at hj
        injection hj with hj
        rw [← hj, add_off]
        have h1 := hc j y hx
        have hlt : g < w.heap.size := by
          rcases Nat.lt_or_ge g w.heap.size with h | h
          · exact h
          · simp [World.cell?, Array.getElem?_eq_none h] at h1
        rw [← h1]
        exact World.cell?_of_block (BlkW.heap_alloc_old w _ g hlt)) (by
      intro u hu
      obtain ⟨y, _, rfl⟩ := List.mem_map.1 hu
      rfl) (by unfold maxLen; omega) (by omega) (by rw [size_new]; omega)
  rw [Nat.zero_add] at hown'
  obtain ⟨A, c, rfl, _⟩ := own_slice hown'
  refine ⟨A, c, w', hrun, by simpa using hown', ((Below.refl _ w).alloc (Nat.le_refl _) _).grown hgr (by rw [size_new]; omega) (fun k hk => by simp [Value.ownBlock] at hk; omega)⟩
set_option maxRecDepth 100000 in
theorem k_clone (w : World) (v : Value) (xs : List Int) (hs : Src w v xs) (hl : xs.length ≤ 1000) : Calls Try.prog 79 #[v] w fun e w' => ∃ A c, e = .returned (.slice A xs.length c) ∧ OwnU w' w.heap.size (.slice A xs.length c) xs ∧ Below w.heap.size w w' := by
  obtain ⟨A, c, w1, hrun, hown, hbel⟩ := run_clone hs hl
  obtain ⟨g, o, cap, rfl, hc⟩ := hs
  have HO := Lib.hid hown
  have HB := Lib.hid hbel
  clear hown hbel hc
  have hnil : ∀ w : World, (binOp BinOp.eql TR (.slice (some ⟨g, o, none⟩) xs.length cap) (.slice none 0 0)).run Try.prog w = .ok (.bool false) w := fun w => by kernel_rfl
  go_enter Try.func79, Try.ntmps79
  go_wp2_with (at_builtin; refine wpList_append_run rfl _ _ _ rfl hrun (by rfl) (by rfl) ?_)
  go_ret
  exact ⟨A, c, rfl, HO.out, HB.out⟩
/-- An image. -/
abbrev imgV (d o : Value) (c t s : Int) (l h n : Value) : Value := .agg #[d, o, .int .u64 c, .int .u64 t, .int .u64 s, l, h, n]
/-- What stands while Image's region runs. -/
structure SI (lo hi : Nat) (w0 : World) (b : Nat) (A : Int → List Int) (bm : Nat) (g : Int → Nat) (w : World) : Prop where
  held : Held lo hi w b A bm g
  stay : Stay lo hi w0 w
  lt : w0.heap.size < w.heap.size
theorem SI.below {lo hi : Nat} {w0 : World} {b : Nat} {A : Int → List Int} {bm : Nat} {g : Int → Nat} {w w1 : World} (h : SI lo hi w0 b A bm g w) (k : Below w.heap.size w w1) : SI lo hi w0 b A bm g w1 := ⟨h.held.below k, h.stay.trans (Stay.of_below k), Nat.lt_of_lt_of_le h.lt k.size⟩
theorem SI.drewN {lo hi : Nat} {w0 : World} {b : Nat} {A : Int → List Int} {bm : Nat} {g : Int → Nat} {w : World} (h : SI lo hi w0 b A bm g w) (n : Nat) : SI lo hi w0 b A bm g (w.drewN n) := ⟨h.held.drewN n, h.stay.drewN n, h.lt⟩
theorem SI.drew {lo hi : Nat} {w0 : World} {b : Nat} {A : Int → List Int} {bm : Nat} {g : Int → Nat} {w : World} (h : SI lo hi w0 b A bm g w) : SI lo hi w0 b A bm g w.drew := ⟨h.held.drewN 1, h.stay.drewN 1, h.lt⟩
theorem SI.set_ {lo hi : Nat} {w0 : World} {b : Nat} {A : Int → List Int} {bm : Nat} {g : Int → Nat} {w : World} (h : SI lo hi w0 b A bm g w) (hh : hi ≤ w0.heap.size) (j : Nat) (u : Value) : SI lo hi w0 b A bm g (w.setCell ⟨w0.heap.size, j, none⟩ u) := ⟨h.held.far hh u, h.stay.set_ _ (.inr (Nat.le_refl _)) u, by simpa [World.setCell] using h.lt⟩
end Go.Proofs.Ytpjbmbipkmpkhaa.CelI
