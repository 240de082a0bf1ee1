/-
  The rows of CodeCanonical: four bytes ahead of a row, a list of rows.
-/
import Derived.Test.YtafidppjabdecaaCodeW
import Derived.Deep.Upon
namespace Go.Proofs.Ytafidppjabdecaa.CodeQ
open Go.ChangeShapes Go.WideShapes Go.ChangeAt Go.RowKit
open LawFrame
set_option linter.unusedVariables false
set_option maxHeartbeats 1000000
open PlainT BlkW CodeS CodeW

theorem upto {k : IntKind} {w w' : World} {A : Option Addr} {n : Nat} {z : List Int} (h : Ints k w A n z) (b : Below w.heap.size w w') : Ints k w' A n z := by
  refine ⟨h.1, h.2.1, fun hn => ?_⟩
  obtain ⟨g, off, rfl, hg, hc⟩ := h.2.2 hn
  exact ⟨g, off, rfl, Nat.lt_of_lt_of_le hg b.size, fun i hi => by rw [World.cell?_of_block (w := w) (b.block g hg)]; exact hc i hi⟩
theorem inb {w : World} {A : Option Addr} {n : Nat} {z : List Int} (h : Ints .u8 w A n z) : ∀ b ∈ z, InB b := by
  intro b hb
  have h1 := h.2.1 b hb
  have h2 : IntKind.u8.min ≤ b ∧ b ≤ IntKind.u8.max := by simpa [Lit.wf] using h1
  rwa [show IntKind.u8.min = 0 by decide, show IntKind.u8.max = 255 by decide] at h2
/-- Nothing appended. -/
theorem app_none (w : World) (a : Addr) (n c : Nat) (h : n ≤ c) (A : Option Addr) (d : Nat) :
    (Builtin.append_ #[31, 31] 31 #[.slice (some a) n c, .slice A 0 d]).run Try.prog w = .ok (.slice (some a) n c) w := by
  obtain ⟨i0, hi, hz0, hz1, hz2⟩ := info_parts info_byte
  refine run_append_nothing w _ _ _ 5 i0 Try.underlying31 hi (some a) n c h _ ?_
  cases A with
  | none => exact Src.ofNil w Try.underlying31 d
  | some b => exact Src.ofSlice w Try.underlying31 b 0 d [] (by simp) (fun j u h => by simp at h) (fun u h => by cases h)
/-- The four bytes ahead of a row. -/
theorem app4 (w : World) (A : Option Addr) (n c : Nat) (z : List Int) (h : Ints .u8 w A n z) (hn : n ≤ 1000) :
    ∃ A' n' c' w', (Builtin.append_ #[31, 31] 31 #[.slice (some ⟨w.heap.size, 0, none⟩) 4 4, .slice A n c]).run Try.prog (w.alloc (.cells #[.int .u8 83, .int .u8 84, .int .u8 88, .int .u8 49] 5 (4, 5))) = .ok (.slice A' n' c') w' ∧
      Ints .u8 w' A' n' ([83, 84, 88, 49] ++ z) ∧ n' ≤ c' ∧ c' ≤ maxLen ∧ Below w.heap.size w w' := by
  obtain ⟨wa, hwa⟩ : ∃ wa, wa = w.alloc (.cells #[.int .u8 83, .int .u8 84, .int .u8 88, .int .u8 49] 5 (4, 5)) := ⟨_, rfl⟩
  have hs : wa.heap.size = w.heap.size + 1 := by rw [hwa]; exact size_new _ _
  have hb : Below w.heap.size w wa := hwa ▸ below_new w _
  have hz := upto h hb
  have hrw : Rw w.heap.size wa (.slice (some ⟨w.heap.size, 0, none⟩) 4 4) [83, 84, 88, 49] := by
    subst hwa
    exact .inr ⟨by decide, w.heap.size, _, _, rfl, Nat.le_refl _, heap_alloc_new w _, rfl, by decide⟩
  have hin : ∀ b ∈ [83, 84, 88, 49] ++ z, InB b := by
    intro b hb
    rcases List.mem_append.1 hb with h1 | h1
    · have h2 : ∀ b ∈ [(83 : Int), 84, 88, 49], 0 ≤ b ∧ b ≤ 255 := by decide
      exact h2 b h1
    · exact inb hz b h1
  rw [← hwa]
  rcases Nat.eq_zero_or_pos n with h0 | h0
  · subst h0
    have : z = [] := List.eq_nil_of_length_eq_zero hz.1
    subst this
    exact ⟨_, _, _, wa, app_none wa _ 4 4 (by omega) A c, (hrw.ints hin).2, Nat.le_refl _, by decide, hb⟩
  · obtain ⟨g, off, rfl, hg, hc⟩ := hz.2.2 h0
    have hl := hz.1
    obtain ⟨v', w', hrun, hown', hgr⟩ := rw_append hrw (by omega) ⟨g, off, none⟩ n c z hl h0 (by
      intro j u hu
      unfold bC at hu
      rw [List.getElem?_map] at hu
      have hj : j < z.length := by
        rcases Nat.lt_or_ge j z.length with h3 | h3
        · exact h3
        · rw [List.getElem?_eq_none h3] at hu; cases hu
      rw [List.getElem?_eq_getElem hj] at hu
      obtain rfl : Value.int .u8 z[j] = u := by simpa using hu
      have hadd : (⟨g, off, none⟩ : Addr).add j = ⟨g, off + j, none⟩ := by unfold Addr.add; split <;> simp_all
      rw [hadd, hc j (by omega), List.getD_eq_getElem?_getD, List.getElem?_eq_getElem hj]
      rfl) (by simp; omega)
    obtain ⟨A', c', rfl, h1, h2⟩ := hown'.slice
    refine ⟨_, _, _, w', hrun, (hown'.ints hin).2, h1, h2, hb.grown hgr (by omega) (fun k hk => ?_)⟩
    simp [Value.ownBlock] at hk
    omega
/-- One element turned. -/
theorem ints_set {w : World} {g n r : Nat} {cur : Array Value} {t : TypeId} {z : List Int} {X : Int} (h : Ints .u8 w (some ⟨g, 0, none⟩) n z) (hm : Mem w g t cur) (hr : r < n) (hX : (Lit.int .u8 X).wf = true) :
    Ints .u8 (w.setCell ⟨g, r, none⟩ (.int .u8 X)) (some ⟨g, 0, none⟩) n (z.set r X) := by
  refine ⟨by rw [List.length_set]; exact h.1, fun x hx => ?_, fun hn => ?_⟩
  · rcases List.mem_or_eq_of_mem_set hx with h1 | h1
    · exact h.2.1 x h1
    · rw [h1]; exact hX
  · obtain ⟨b, off, e, hb, hc⟩ := h.2.2 hn
    injection e with e
    injection e with e1 e2
    subst e1 e2
    have hm' := hm.set_ r (.int .u8 X)
    refine ⟨g, 0, rfl, hm'.lt, fun i hi => ?_⟩
    have hci := hc i hi
    rw [Nat.zero_add] at hci ⊢
    rw [hm'.cell i]
    have hcr := hm.cell i
    rw [hci] at hcr
    have hs : i < cur.size := by
      rcases Nat.lt_or_ge i cur.size with h1 | h1
      · exact h1
      · rw [Array.getElem?_eq_none h1] at hcr; cases hcr
    by_cases hir : r = i
    · subst hir
      rw [Array.getElem?_setIfInBounds_self_of_lt hs, List.getD_eq_getElem?_getD, List.getElem?_set_self (by rw [h.1]; exact hi)]
      rfl
    · rw [Array.getElem?_setIfInBounds_ne hir, ← hcr, List.getD_eq_getElem?_getD, List.getD_eq_getElem?_getD, List.getElem?_set_ne hir]
/-- A list of rows of bytes in a block of its own. -/
def BL (w : World) (g N : Nat) : Prop := g < w.heap.size ∧ ∀ i, i < N → ∃ Ai ni ci zi, w.cell? ⟨g, i, none⟩ = some (.slice Ai ni ci) ∧ ni ≤ ci ∧ ci ≤ maxLen ∧ Ints .u8 w Ai ni zi
theorem BL.upto {w w' : World} {g N : Nat} (h : BL w g N) (b : Below w.heap.size w w') : BL w' g N := by
  refine ⟨Nat.lt_of_lt_of_le h.1 b.size, fun i hi => ?_⟩
  obtain ⟨Ai, ni, ci, zi, h1, h2, h3, h4⟩ := h.2 i hi
  exact ⟨Ai, ni, ci, zi, by rw [World.cell?_of_block (w := w) (b.block g h.1)]; exact h1, h2, h3, CodeQ.upto h4 b⟩
theorem info_row : (Try.prog.info? 31).map (fun i => (i.zero, i.size, i.bytes)) = some (some (.slice none 0 0), 1, 24) := by kernel_rfl
/-- A third row behind two. -/
theorem app_row (w : World) (g : Nat) (v0 v1 v2 : Value) (h0 : w.cell? ⟨g, 0, none⟩ = some v0) (h1 : w.cell? ⟨g, 1, none⟩ = some v1) (hg : g < w.heap.size) :
    ∃ c' w', (Builtin.append_ #[43, 43] 43 #[.slice (some ⟨g, 0, none⟩) 2 2, .slice (some ⟨w.heap.size, 0, none⟩) 1 1]).run Try.prog (w.alloc (.cells #[v2] 31)) = .ok (.slice (some ⟨w.heap.size + 1, 0, none⟩) 3 c') w' ∧
      w'.cell? ⟨w.heap.size + 1, 0, none⟩ = some v0 ∧ w'.cell? ⟨w.heap.size + 1, 1, none⟩ = some v1 ∧ w'.cell? ⟨w.heap.size + 1, 2, none⟩ = some v2 ∧ w.heap.size + 1 < w'.heap.size ∧ 3 ≤ c' ∧ Below w.heap.size w w' := by
  obtain ⟨i0, hi, hz0, hz1, hz2⟩ := info_parts info_row
  obtain ⟨wa, hwa⟩ : ∃ wa, wa = w.alloc (.cells #[v2] 31) := ⟨_, rfl⟩
  have hs : wa.heap.size = w.heap.size + 1 := by rw [hwa]; exact size_new _ _
  have hb : Below w.heap.size w wa := hwa ▸ below_new w _
  have c0 : wa.cell? ⟨g, 0, none⟩ = some v0 := by rw [World.cell?_of_block (w := w) (hb.block g hg)]; exact h0
  have c1 : wa.cell? ⟨g, 1, none⟩ = some v1 := by rw [World.cell?_of_block (w := w) (hb.block g hg)]; exact h1
  have c2 : wa.cell? ⟨w.heap.size, 0, none⟩ = some v2 := by subst hwa; exact ((Mem.new w 31 #[v2]).cell 0).trans rfl
  rw [← hwa]
  have hr := run_append_grow (P := Try.prog) wa 43 43 31 i0 _ Try.underlying43 hi hz0 ⟨g, 0, none⟩ 2 2 [v0, v1] (by simp [hz1]) (by
      intro j u hu
      match j, hu with
      | 0, hu => cases hu; exact c0
      | 1, hu => cases hu; exact c1) ⟨w.heap.size, 0, none⟩ 1 1 [v2] (by simp [hz1]) (by
      intro j u hu
      match j, hu with
      | 0, hu => cases hu; exact c2) (by omega) (by omega)
      (growslice_fits (by omega) (by rw [hz2]; omega))
  have hg := grownCap_ge wa (2 + 1) 2 31
  rw [hs] at hr
  have hc' : ∀ (j : Nat) (u : Value), [v0, v1, v2][j]? = some u → (wa.drew.alloc (.cells (#[v0, v1] ++ #[v2] ++ Builtin.zeroCells (Value.slice none 0 0).cells (grownCap wa (2 + 1) 2 31 - (2 + 1))) 31)).cell? ⟨w.heap.size + 1, j, none⟩ = some u := by
    intro j u hu
    rw [← hs]
    have := (Mem.new wa.drew 31 (#[v0, v1] ++ #[v2] ++ Builtin.zeroCells (Value.slice none 0 0).cells (grownCap wa (2 + 1) 2 31 - (2 + 1)))).cell j
    refine Eq.trans this ?_
    match j, hu with
    | 0, hu => cases hu; rw [Array.getElem?_append_left (by simp)]; simp
    | 1, hu => cases hu; rw [Array.getElem?_append_left (by simp)]; simp
    | 2, hu => cases hu; rw [Array.getElem?_append_left (by simp)]; simp
  refine ⟨_, _, hr, hc' 0 _ rfl, hc' 1 _ rfl, hc' 2 _ rfl, ?_, hg, hb.trans (Below.mono ((below_drewN (Below.refl wa.heap.size wa) 1).alloc (Nat.le_refl _) _) hb.size)⟩
  rw [size_new, show wa.drew.heap.size = wa.heap.size from rfl, hs]
  omega
end Go.Proofs.Ytafidppjabdecaa.CodeQ
