/-
  Rows of integers that a call has made, perhaps cut at the front: one integer more at the end; contract of strongtxkit.Ints.
-/
import Derived.Test.YtpjbmbipkmpkhaaLabD
import Derived.ArgAppend
import Derived.BigQuiet
namespace Go.Proofs.Ytpjbmbipkmpkhaa.FreV
open Go.ChangeShapes Go.WideShapes Go.ChangeAt Go.RowKit
open PlainT BlkW CelS CelM CelV LabD
set_option linter.unusedVariables false
set_option maxHeartbeats 1000000
set_option maxRecDepth 100000

/-- A slice of integers: xs, in a row of the call's own from block B on. -/
def OwnQ (w : World) (B : Nat) (v : Value) (xs : List Int) : Prop :=
  ∃ A cap, v = .slice A xs.length cap ∧ xs.length ≤ cap ∧ cap ≤ maxLen ∧
    (cap = 0 ∨ ∃ g off cur, A = some ⟨g, off, none⟩ ∧ B ≤ g ∧ w.heap[g]? = some (.cells cur TI (0, 0)) ∧ cur.size = off + cap ∧ ∀ j x, xs[j]? = some x → cur[off + j]? = some (.int .i64 x))
/-- Rows of integers from block B on. -/
def PQ (B : Nat) (w : World) (g : Nat) : Prop := B ≤ g ∧ ∃ cur, w.heap[g]? = some (.cells cur TI (0, 0))
section
variable {w w' : World} {B : Nat} {v : Value} {xs : List Int}
theorem ownq_nil (w : World) (B : Nat) : OwnQ w B (.slice none 0 0) [] := ⟨none, 0, rfl, Nat.le_refl _, Nat.zero_le _, .inl rfl⟩
theorem OwnQ.fr {P : Nat → Prop} (h : OwnQ w B v xs) (k : Fr P w w') (hp : ∀ g, PQ B w g → ¬ P g) : OwnQ w' B v xs := by
  obtain ⟨A, cap, rfl, h1, h2, h3⟩ := h
  refine ⟨A, cap, rfl, h1, h2, ?_⟩
  rcases h3 with h3 | ⟨g, off, cur, rfl, h4, h5, h6⟩
  · exact .inl h3
  · exact .inr ⟨g, off, cur, rfl, h4, (k.block g (lt_of_some h5) (hp g ⟨h4, cur, h5⟩)).trans h5, h6⟩
theorem OwnQ.below (h : OwnQ w B v xs) (k : Below w.heap.size w w') : OwnQ w' B v xs := h.fr (P := fun _ => False) (Fr.of_below k) fun _ _ => id
theorem OwnQ.cell (h : OwnQ w B v xs) (hx : 0 < xs.length) : ∃ g off cap, v = .slice (some ⟨g, off, none⟩) xs.length cap ∧ B ≤ g ∧ g < w.heap.size ∧ ∀ j x, xs[j]? = some x → w.cell? ⟨g, off + j, none⟩ = some (.int .i64 x) := by
  obtain ⟨A, cap, rfl, h1, h2, h3⟩ := h
  rcases h3 with h3 | ⟨g, off, cur, rfl, h4, h5, h6, h7⟩
  · omega
  · exact ⟨g, off, cap, rfl, h4, lt_of_some h5, fun j x hj => by
      have := h7 j x hj
      simp [World.cell?, h5, this]⟩
theorem ownq_of_row {n : Nat} (h : w.ownsRow B TI 1 v n (xs.map (Value.int .i64))) (hn : n = xs.length) : OwnQ w B v xs := by
  subst hn
  obtain ⟨h1, h2⟩ := h
  rcases h2 with ⟨rfl, h0⟩ | ⟨g, cap, cur, rfl, hb, hg, h3, h4, h5, h6⟩
  · exact ⟨none, 0, by rw [h0], by omega, Nat.zero_le _, .inl rfl⟩
  · refine ⟨_, cap, rfl, h3, h4, .inr ⟨g, 0, cur, rfl, hb, hg, by omega, fun j x hj => ?_⟩⟩
    have hl := (List.getElem?_eq_some_iff.1 hj).1
    have h7 : (cur.toList.take (xs.length * 1))[j]? = some (.int .i64 x) := by
      rw [h6, List.getElem?_map, hj]
      rfl
    rw [List.getElem?_take_of_lt (by omega)] at h7
    rw [Nat.zero_add]
    simpa using h7
/-- The slice without its first element. -/
theorem OwnQ.tail {A : Option Addr} {n cap : Nat} {x : Int} (h : OwnQ w B (.slice A n cap) (x :: xs)) (A' : Option Addr) (hA : cap ≠ 1 → A' = A.map fun a => a.add 1) : OwnQ w B (.slice A' (n - 1) (cap - 1)) xs := by
  obtain ⟨A2, cap2, e, h1, h2, h3⟩ := h
  injection e with e1 e2 e3
  subst e1 e2 e3
  rw [List.length_cons] at h1
  refine ⟨A', cap - 1, by rw [List.length_cons, Nat.add_sub_cancel], by omega, by omega, ?_⟩
  rcases h3 with h3 | ⟨g, off, cur, rfl, h4, h5, h6, h7⟩
  · omega
  · by_cases hc : cap = 1
    · exact .inl (by omega)
    · refine .inr ⟨g, off + 1, cur, ?_, h4, h5, by omega, fun j y hj => ?_⟩
      · rw [hA hc]
        simp [Addr.add]
      · have := h7 (j + 1) y (by simpa using hj)
        rw [← this]
        congr 1
        omega
theorem push_q (hB : B ≤ w.heap.size) (h : OwnQ w B v xs) (hn : xs.length ≤ 1000) (x : Int) :
    ∃ A c w', (Builtin.append_ #[47, 47] 47 #[v, .slice (some ⟨w.heap.size, 0, none⟩) 1 1]).run Try.prog (w.alloc (.cells #[.int .i64 x] TI)) = .ok (.slice A (xs.length + 1) c) w' ∧
      OwnQ w' B (.slice A (xs.length + 1) c) (xs ++ [x]) ∧ Fr (PQ B w) w w' := by
  obtain ⟨i, hi, hz, hs, hb⟩ : ∃ i, Try.prog.info? TI = some i ∧ i.zero = some (.int .i64 0) ∧ i.size = 1 ∧ i.bytes = 8 := ⟨_, rfl, by kernel_rfl, by kernel_rfl, by kernel_rfl⟩
  have hnew := cell_one_new w (.int .i64 x) TI
  have hFa := (Fr.refl (PQ B w) w).alloc (.cells #[.int .i64 x] TI)
  have hone : ∀ u ∈ [Value.int .i64 x], u.oneCell' = true := fun u hu => by
    simp at hu
    subst hu
    rfl
  have fin : ∀ (v' : Value) (w' : World) (B2 : Nat), B ≤ B2 → w'.ownsRow B2 TI 1 v' (xs.length + 1) ((xs ++ [x]).map (Value.int .i64)) → (w.alloc (.cells #[.int .i64 x] TI)).grownBy w' none → ∃ A c, v' = .slice A (xs.length + 1) c ∧ OwnQ w' B (.slice A (xs.length + 1) c) (xs ++ [x]) ∧ Fr (PQ B w) w w' := by
    intro v' w' B2 hB2 ho hg
    obtain ⟨A, c, rfl, _⟩ := own_slice ho
    refine ⟨A, c, rfl, ownq_of_row (n := xs.length + 1) ⟨ho.1, ho.2.imp id (fun ⟨g, cap, cur, e, h1, h2⟩ => ⟨g, cap, cur, e, Nat.le_trans hB2 h1, h2⟩)⟩ (by simp), ?_⟩
    exact hFa.trans ⟨hg.os, hg.tape, hg.output, hg.size, fun g hg1 _ => hg.block g hg1 (by simp)⟩
  obtain ⟨A, cap, rfl, h1, h2, h3⟩ := h
  have hnews : [Value.int .i64 x].length = 1 * i.size := by rw [hs]; rfl
  by_cases hroom : xs.length + 1 ≤ cap
  · rcases h3 with h3 | ⟨g, off, cur, rfl, h4, h5, h6, h7⟩
    · omega
    · have hgw := lt_of_some h5
      have h5' : (w.alloc (.cells #[.int .i64 x] TI)).heap[g]? = some (.cells cur TI (0, 0)) := (BlkW.heap_alloc_old w _ g hgw).trans h5
      have hM : Mem (w.alloc (.cells #[.int .i64 x] TI)) g TI cur := h5'
      have hlt : off + xs.length < cur.size := by omega
      have hr := run_append_room_cells (P := Try.prog) (w := w.alloc (.cells #[.int .i64 x] TI)) 47 47 TI i Try.underlying47 hi g off xs.length cap ⟨w.heap.size, 0, none⟩ 1 1 [.int .i64 x] hnews hnew hone hroom
        (fun j hj => by
          simp at hj
          subst hj
          rw [hs, Nat.mul_one, Nat.add_zero, hM.cell, Array.getElem?_eq_getElem hlt]
          rfl) (fun j hj => hM.frozen _)
      rw [hs, Nat.mul_one] at hr
      refine ⟨_, _, _, hr, ⟨_, cap, by simp, by simpa using hroom, h2, .inr ⟨g, off, cur.setIfInBounds (off + xs.length) (.int .i64 x), rfl, h4, hM.set_ (off + xs.length) (.int .i64 x), by simpa using h6, fun j y hj => ?_⟩⟩, hFa.set_ ⟨g, off + xs.length, none⟩ (.inl ⟨h4, cur, h5⟩) _⟩
      by_cases e : j < xs.length
      · rw [List.getElem?_append_left e] at hj
        rw [Array.getElem?_setIfInBounds_ne (by omega)]
        exact h7 j y hj
      · have hjl := (List.getElem?_eq_some_iff.1 hj).1
        simp at hjl
        obtain rfl : j = xs.length := by omega
        simp at hj
        subst hj
        rw [Array.getElem?_setIfInBounds_self_of_lt hlt]
  · have hcap : cap = xs.length := by omega
    subst hcap
    rcases A with _ | a
    · have hx0 : xs.length = 0 := by
        rcases h3 with h3 | ⟨g, off, cur, h4, _⟩
        · exact h3
        · cases h4
      have hx := List.eq_nil_of_length_eq_zero hx0
      subst hx
      obtain ⟨v', w', hr, ho, hg, _⟩ := run_append_own (P := Try.prog) (w := w.alloc (.cells #[.int .i64 x] TI)) B 47 47 TI i _ 1 8 Try.underlying47 hi hz hs hb rfl (by decide) (.slice none 0 0) 0 [] (World.ownsRow_nil _ _ _ _) ⟨w.heap.size, 0, none⟩ 1 1 [.int .i64 x] rfl hnew hone (by simp [maxLen]) (by omega) (by rw [size_new]; omega)
      obtain ⟨A, c, rfl, h8, h9⟩ := fin v' w' B (Nat.le_refl _) (by simpa using ho) hg
      exact ⟨A, c, w', hr, h8, h9⟩
    · obtain ⟨v', w', hr, ho, hg⟩ := run_append_arg_grows (P := Try.prog) (w := w.alloc (.cells #[.int .i64 x] TI)) 47 47 TI i _ 1 8 Try.underlying47 hi hz hs hb rfl (by decide) a xs.length xs.length (xs.map (Value.int .i64)) (by simp) (fun j u hj => by
          rw [List.getElem?_map] at hj
          obtain ⟨y, hy, rfl⟩ := Option.map_eq_some_iff.1 hj
          rcases h3 with h3 | ⟨g, off, cur, e, h4, h5, h6, h7⟩
          · have := (List.getElem?_eq_some_iff.1 hy).1
            omega
          · injection e with e
            subst e
            have h5' : (w.alloc (.cells #[.int .i64 x] TI)).heap[g]? = some (.cells cur TI (0, 0)) := (BlkW.heap_alloc_old w _ g (lt_of_some h5)).trans h5
            have := h7 j y hy
            rw [CelN.add_off]
            simp [World.cell?, h5', this]) ⟨w.heap.size, 0, none⟩ 1 1 [.int .i64 x] (by simp) hnew (by omega) (by simp only [maxLen]; omega) (by omega)
      obtain ⟨A, c, rfl, h8, h9⟩ := fin v' w' (w.alloc (.cells #[.int .i64 x] TI)).heap.size (by rw [size_new]; omega) (by simpa using ho) hg
      exact ⟨A, c, w', hr, h8, h9⟩
end
end Go.Proofs.Ytpjbmbipkmpkhaa.FreV

namespace Go.Proofs.Ytpjbmbipkmpkhaa.FreI
open Go.ChangeShapes Go.WideShapes Go.ChangeAt Go.RowKit
open PlainT BlkW CelS CelM CelP CelV CelN FreV
set_option linter.unusedVariables false
set_option maxHeartbeats 1000000
set_option maxRecDepth 100000
/-- A slice that reads as xs; the empty one may be nil. -/
def RdI (w : World) (v : Value) (xs : List Int) : Prop := ∃ p cap, v = .slice p xs.length cap ∧ ∀ j x, xs[j]? = some x → ∃ g o, p = some ⟨g, o, none⟩ ∧ w.cell? ⟨g, o + j, none⟩ = some (.int .i64 x)
/-- The world, but for draws. -/
abbrev Ws (w w' : World) : Prop := ∃ n, w' = w.drewN n
theorem k_ints (w : World) (v1 v2 : Value) (xs : List Int) (h1 : RdI w v1 xs) (h2 : RdI w v2 xs) (hl : xs.length ≤ 1000) : Calls Try.prog 47 #[v1, v2] w fun e w' => e = .returned (.bool true) ∧ Ws w w' := by
  obtain ⟨p1, c1, rfl, hc1⟩ := h1
  obtain ⟨p2, c2, rfl, hc2⟩ := h2
  obtain ⟨n, hn⟩ : ∃ n, xs.length = n := ⟨_, rfl⟩
  rw [hn] at hl ⊢
  have HN := Lib.hid hn
  have H1 := Lib.hid hc1
  have H2 := Lib.hid hc2
  clear hn hc1 hc2
  go_enter Try.func47, Try.ntmps47
  go_wp2_with fail
  go_loopw [5] (fun kv wr => ∃ k : Nat, k ≤ n ∧ kv = .int .i64 k ∧ Ws w wr) (fun kv _ => n - (intOf kv).toNat)
  case atStart => exact ⟨0, by omega, rfl, 0, rfl⟩
  case round =>
    obtain ⟨k, hk, rfl, hws⟩ := hrel
    have HW := Lib.hid hws
    clear hws
    by_cases hlt : k < n
    · have hlk : (k : Int) < n := by omega
      obtain ⟨x, hx⟩ : ∃ x, xs[k]? = some x := ⟨xs[k]'(by rw [HN.out]; exact hlt), by rw [List.getElem?_eq_getElem]⟩
      obtain ⟨ga, oa, rfl, hca⟩ := H1.out k x hx
      obtain ⟨gb, ob, rfl, hcb⟩ := H2.out k x hx
      have e1 : wr.cell? ⟨ga, oa + k, none⟩ = some (.int .i64 x) := by
        obtain ⟨nd, rfl⟩ := HW.out
        exact hca
      have e2 : wr.cell? ⟨gb, ob + k, none⟩ = some (.int .i64 x) := by
        obtain ⟨nd, rfl⟩ := HW.out
        exact hcb
      clear hca hcb hx hk
      go_upto_region 6 with (fail)
      go_quiet (fail)
      go_wp2_with fail
      go_roundw
      case rel =>
        obtain ⟨nd, rfl⟩ := HW.out
        exact ⟨k + 1, by omega, by go_num, nd + nq, by rw [World.drewN_drewN]⟩
      case measure => simp [intOf]; omega
    · obtain rfl : k = n := by omega
      clear hlt hk
      go_wp2_with fail
      go_ret
      exact ⟨rfl, HW.out⟩
theorem rdi_of {w w' : World} {B : Nat} {v : Value} {xs : List Int} (h : OwnQ w B v xs) (hb : Below w.heap.size w w') : RdI w' v xs := by
  rcases Nat.eq_zero_or_pos xs.length with h0 | h0
  · obtain ⟨A, cap, rfl, _⟩ := h
    exact ⟨A, cap, rfl, fun j x hj => by
      have := (List.getElem?_eq_some_iff.1 hj).1
      omega⟩
  · obtain ⟨g, off, cap, rfl, _, hg, hc⟩ := h.cell h0
    exact ⟨_, cap, rfl, fun j x hj => ⟨g, off, rfl, (World.cell?_of_block (hb.block g hg)).trans (hc j x hj)⟩⟩
theorem rdi_nil (w : World) : RdI w (.slice none 0 0) [] := ⟨none, 0, rfl, fun j x hj => by simp at hj⟩
end Go.Proofs.Ytpjbmbipkmpkhaa.FreI
