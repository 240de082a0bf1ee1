/-
  The contract of Decode of package code.
-/
import Derived.Test.YtafidppjabdecaaCodeN
import Derived.Test.YtafidppjabdecaaCodeM
import Derived.Deep.DeepCutAuto
namespace Go.Proofs.Ytafidppjabdecaa.CodeO
open Go.ChangeShapes Go.WideShapes Go.ChangeAt Go.RowKit
open PlainT BlkW LawFrame CodeS CodeW CodeA CodeE CodeF CodeG CodeH CodeI CodeJ CodeK CodeL CodeM CodeN
set_option linter.unusedVariables false
set_option maxHeartbeats 1000000

def zeroV : Value := .agg #[.int .i64 0, .int .i64 0, .int .i64 0, .int .i64 0, .int .i64 0, .int .i64 0, .int .i64 0, .int .i64 0, .int .i64 0, .int .i64 0, .int .i64 0, .int .i64 0, .bool false, .slice none 0 0, .slice none 0 0, .slice none 0 0]
/-- What decoding the bytes l gives. -/
def DecIs (l : List Int) (w : World) (e : Ending) (w' : World) : Prop :=
  Below w.heap.size w w' ∧ ((262144 < l.length ∧ e = .returned (.tuple #[zeroV, .int .i64 3])) ∨
    (l.length ≤ 262144 ∧ ((decP l = none ∧ e = .returned (.tuple #[zeroV, .int .i64 30])) ∨ ∃ s v, decP l = some s ∧ e = .returned (.tuple #[v, .int .i64 0]) ∧ IsV w' w.heap.size s v)))
theorem IsV.blocks {w w' : World} {B B' : Nat} {s : Scr} {v : Value} (h : IsV w B s v) (hB : B' ≤ B) (hb : ∀ k, B ≤ k → k < w.heap.size → w'.heap[k]? = w.heap[k]?) : IsV w' B' s v := by
  obtain ⟨x0, x1, x2, x3, x4, x5, x6, x7, x8, x9, x10, x11, Ai, ci, Ap, cp, Ak, ck, vs, e1, e2, h1, h2, h3, h4⟩ := h
  have key : ∀ {e : TypeId} {size n : Nat} {v : Value} {xs : List Value}, w.ownsRow B e size v n xs → w'.ownsRow B' e size v n xs := fun ho =>
    own_mono (own_of_block ho fun g hg => hb g (ho.lt g hg).1 (ho.lt g hg).2) hB
  exact ⟨x0, x1, x2, x3, x4, x5, x6, x7, x8, x9, x10, x11, Ai, ci, Ap, cp, Ak, ck, vs, e1, e2, key h1, ⟨h2.1, fun i p hp => by obtain ⟨A, c, h5, h6⟩ := h2.2 i p hp; exact ⟨A, c, h5, key h6⟩⟩, key h3, key h4⟩
theorem IsV.val {w : World} {B : Nat} {s : Scr} {v : Value} (h : IsV w B s v) : ∃ a0 a1 a2 a3 a4 a5 a6 a7 a8 a9 a10 a11 a12 a13 a14 a15, v = .agg #[a0, a1, a2, a3, a4, a5, a6, a7, a8, a9, a10, a11, a12, a13, a14, a15] := by
  obtain ⟨x0, x1, x2, x3, x4, x5, x6, x7, x8, x9, x10, x11, Ai, ci, Ap, cp, Ak, ck, vs, e1, e2, h1⟩ := h
  exact ⟨_, _, _, _, _, _, _, _, _, _, _, _, _, _, _, _, e2⟩
theorem below_sets {B g : Nat} {a b : World} (h : Below B a b) (hg : B ≤ g) (i : Nat) (vs : List Value) : Below B a (sets b g i vs) := by
  obtain ⟨s1, s2, s3⟩ := sets_same g vs b i
  exact ⟨s1.trans h.os, s2.trans h.tape, s3.trans h.output, by rw [sets_size]; exact h.size, fun k hk => (sets_heap g vs b i k (by omega)).trans (h.block k hk)⟩
/-- A reading of the two results. -/
theorem read_results {w : World} {s e : Nat} {a0 a1 a2 a3 a4 a5 a6 a7 a8 a9 a10 a11 a12 a13 a14 a15 ce : Value} {tmps : Array Value} (hs : Mem w s 29 #[a0, a1, a2, a3, a4, a5, a6, a7, a8, a9, a10, a11, a12, a13, a14, a15]) (he : Mem w e 32 #[ce])
    (h2 : tmps[2]? = some (.pointer (some ⟨s, 0, none⟩))) (h3 : tmps[3]? = some (.pointer (some ⟨e, 0, none⟩))) :
    (results Try.f13 tmps).run Try.prog w = .ok (.tuple #[.agg #[a0, a1, a2, a3, a4, a5, a6, a7, a8, a9, a10, a11, a12, a13, a14, a15], ce]) w := by
  have y0 := hs.cell 0
  have y1 := hs.cell 1
  have y2 := hs.cell 2
  have y3 := hs.cell 3
  have y4 := hs.cell 4
  have y5 := hs.cell 5
  have y6 := hs.cell 6
  have y7 := hs.cell 7
  have y8 := hs.cell 8
  have y9 := hs.cell 9
  have y10 := hs.cell 10
  have y11 := hs.cell 11
  have y12 := hs.cell 12
  have y13 := hs.cell 13
  have y14 := hs.cell 14
  have y15 := hs.cell 15
  have yy := he.cell 0
  simp at y0 y1 y2 y3 y4 y5 y6 y7 y8 y9 y10 y11 y12 y13 y14 y15 yy
  simp [results, Try.results13, go_sem, h2, h3, y0, y1, y2, y3, y4, y5, y6, y7, y8, y9, y10, y11, y12, y13, y14, y15, yy]
set_option maxHeartbeats 8000000 in
set_option maxRecDepth 100000 in
theorem a_decode (A : Option Addr) (n c : Nat) (l : List Int) (w : World) (hc : n ≤ c) (hm : c ≤ maxLen) (hz : Ints .u8 w A n l) : Calls Try.prog 13 #[.slice A n c] w fun e w' => DecIs l w e w' := by
  have hmf : ∀ (fn : Fn) (first cap : Array Value) (w : World), (Instr.makeFunc fn first cap).run Try.prog w = .ok (.func fn first cap) w := fun _ _ _ _ => rfl
  have hlen := hz.1
  have hm2 := hm
  unfold maxLen at hm
  obtain ⟨w1, hw1⟩ : ∃ w1, w1 = (w.alloc (.cells #[.int .i64 0, .int .i64 0, .int .i64 0, .int .i64 0, .int .i64 0, .int .i64 0, .int .i64 0, .int .i64 0, .int .i64 0, .int .i64 0, .int .i64 0, .int .i64 0, .bool false, .slice none 0 0, .slice none 0 0, .slice none 0 0] 29)).alloc (.cells #[.int .i64 0] 32) := ⟨_, rfl⟩
  have hs1 : Mem w1 w.heap.size 29 #[.int .i64 0, .int .i64 0, .int .i64 0, .int .i64 0, .int .i64 0, .int .i64 0, .int .i64 0, .int .i64 0, .int .i64 0, .int .i64 0, .int .i64 0, .int .i64 0, .bool false, .slice none 0 0, .slice none 0 0, .slice none 0 0] := hw1 ▸ (Mem.new w 29 #[.int .i64 0, .int .i64 0, .int .i64 0, .int .i64 0, .int .i64 0, .int .i64 0, .int .i64 0, .int .i64 0, .int .i64 0, .int .i64 0, .int .i64 0, .int .i64 0, .bool false, .slice none 0 0, .slice none 0 0, .slice none 0 0]).alloc _
  have he1 : Mem w1 (w.heap.size + 1) 32 #[.int .i64 0] := hw1 ▸ mem_new1 w _ _ _
  have hz1 : w1.heap.size = w.heap.size + 2 := by rw [hw1, size_new, size_new]
  have hb1 : Below w.heap.size w w1 := hw1 ▸ below_new2 w _ _
  have hi1 : Ints .u8 w1 A n l := hw1 ▸ Ints.alloc (Ints.alloc hz _) _
  have HW := Lib.hid hw1
  have hlow : 0 < n → ∀ a, A = some a → a.block < w.heap.size + 2 := by
    intro h0 a ha
    obtain ⟨b, off, rfl, hb, _⟩ := hz.2.2 h0
    cases ha
    show b < _
    omega
  by_cases hlong : 262144 < l.length
  · have hn : ((262144 : Int) < (n : Int)) := by omega
    have m1 := (sets_mem w.heap.size 29 [.int .i64 0, .int .i64 0, .int .i64 0, .int .i64 0, .int .i64 0, .int .i64 0, .int .i64 0, .int .i64 0, .int .i64 0, .int .i64 0, .int .i64 0, .int .i64 0, .bool false, .slice none 0 0, .slice none 0 0, .slice none 0 0] w1 [] [.int .i64 0, .int .i64 0, .int .i64 0, .int .i64 0, .int .i64 0, .int .i64 0, .int .i64 0, .int .i64 0, .int .i64 0, .int .i64 0, .int .i64 0, .int .i64 0, .bool false, .slice none 0 0, .slice none 0 0, .slice none 0 0] hs1 rfl)
    have m2 : Mem (sets w1 w.heap.size 0 [.int .i64 0, .int .i64 0, .int .i64 0, .int .i64 0, .int .i64 0, .int .i64 0, .int .i64 0, .int .i64 0, .int .i64 0, .int .i64 0, .int .i64 0, .int .i64 0, .bool false, .slice none 0 0, .slice none 0 0, .slice none 0 0]) (w.heap.size + 1) 32 #[.int .i64 0] := (sets_heap w.heap.size [.int .i64 0, .int .i64 0, .int .i64 0, .int .i64 0, .int .i64 0, .int .i64 0, .int .i64 0, .int .i64 0, .int .i64 0, .int .i64 0, .int .i64 0, .int .i64 0, .bool false, .slice none 0 0, .slice none 0 0, .slice none 0 0] w1 0 (w.heap.size + 1) (by omega)).trans he1
    have m3 := (m1.far (a := ⟨w.heap.size + 1, 0, none⟩) (by show w.heap.size ≠ w.heap.size + 1; omega) (.int .i64 3))
    have m4 := (m2.set_ 0 (.int .i64 3))
    have hb4 := ((below_sets hb1 (Nat.le_refl _) 0 [.int .i64 0, .int .i64 0, .int .i64 0, .int .i64 0, .int .i64 0, .int .i64 0, .int .i64 0, .int .i64 0, .int .i64 0, .int .i64 0, .int .i64 0, .int .i64 0, .bool false, .slice none 0 0, .slice none 0 0, .slice none 0 0]).setCell (p := ⟨w.heap.size + 1, 0, none⟩) (by show w.heap.size ≤ w.heap.size + 1; omega) (.int .i64 3))
    have M3 := Lib.hid m3
    have M4 := Lib.hid m4
    have HB4 := Lib.hid hb4
    have HL := Lib.hid hlong
    have hfz := hs1.frozen
    have hfe := he1.frozen 0
    have fl3 : ∀ i v, (#[.int .i64 0, .int .i64 0, .int .i64 0, .int .i64 0, .int .i64 0, .int .i64 0, .int .i64 0, .int .i64 0, .int .i64 0, .int .i64 0, .int .i64 0, .int .i64 0, .bool false, .slice none 0 0, .slice none 0 0, .slice none 0 0] : Array Value)[i]? = some v → w1.cell? ⟨w.heap.size, i, none⟩ = some v := fun i v hv => (hs1.cell i).trans hv
    have o0 := fl3 0 _ rfl
    have o1 := fl3 1 _ rfl
    have o2 := fl3 2 _ rfl
    have o3 := fl3 3 _ rfl
    have o4 := fl3 4 _ rfl
    have o5 := fl3 5 _ rfl
    have o6 := fl3 6 _ rfl
    have o7 := fl3 7 _ rfl
    have o8 := fl3 8 _ rfl
    have o9 := fl3 9 _ rfl
    have o10 := fl3 10 _ rfl
    have o11 := fl3 11 _ rfl
    have o12 := fl3 12 _ rfl
    have o13 := fl3 13 _ rfl
    have o14 := fl3 14 _ rfl
    have o15 := fl3 15 _ rfl
    have oe : w1.cell? ⟨w.heap.size + 1, 0, none⟩ = some (.int .i64 0) := he1.cell 0
    clear m1 m2 m3 m4 hb4 hs1 he1 hz1 hb1 hi1 hw1 hz hlow hlen hlong fl3
    go_enter_defers Try.func13, Try.ntmps13
    go_upto_region 1 with (fail)
    rw [← HW.out]
    go_wp2
    exact ⟨_, read_results M3.out M4.out rfl rfl, HB4.out, .inl ⟨HL.out, rfl⟩⟩
  · have hn : ¬ ((262144 : Int) < (n : Int)) := by omega
    have hR : Rd (w.heap.size + 2) (w1.alloc (.cells #[.slice A n c] 62)) (w.heap.size + 2) l := by
      refine ⟨Nat.le_refl _, by rw [size_new]; omega, by omega, A, n, c, ?_, hc, hm2, Ints.alloc hi1 _, hlow⟩
      have := Mem.new w1 62 #[.slice A n c]
      rwa [hz1] at this
    have hs2 := hs1.alloc (.cells #[.slice A n c] 62)
    have he2 := he1.alloc (.cells #[.slice A n c] 62)
    have hb2 := hb1.alloc (by omega) (.cells #[.slice A n c] 62)
    have HR := Lib.hid hR
    have HS := Lib.hid hs2
    have HE := Lib.hid he2
    have HB := Lib.hid hb2
    have HL := Lib.hid hlong
    have hzw := hz1
    clear hR hs2 he2 hb2 hs1 he1 hz1 hb1 hi1 hw1 hz hlow hlen hlong
    go_enter_defers Try.func13, Try.ntmps13
    go_upto_region 1 with (fail)
    rw [← HW.out]
    clear HW
    go_wp2_with fail
    refine (a_script (w.heap.size + 2) (w.heap.size + 2) l _ HR.out).mono ?_
    rintro e w2 ⟨hf2, h2⟩
    have hs3 : Mem w2 w.heap.size 29 #[.int .i64 0, .int .i64 0, .int .i64 0, .int .i64 0, .int .i64 0, .int .i64 0, .int .i64 0, .int .i64 0, .int .i64 0, .int .i64 0, .int .i64 0, .int .i64 0, .bool false, .slice none 0 0, .slice none 0 0, .slice none 0 0] := (hf2.low w.heap.size (by omega)).trans HS.out
    have he3 : Mem w2 (w.heap.size + 1) 32 #[.int .i64 0] := (hf2.low (w.heap.size + 1) (by omega)).trans HE.out
    have hb3 := HB.out.trans (hf2.below.mono (by omega : w.heap.size ≤ w.heap.size + 2))
    rcases h2 with ⟨hn, rfl⟩ | ⟨s, v, hs, rfl, hv⟩
    · have m1 := (sets_mem w.heap.size 29 [.int .i64 0, .int .i64 0, .int .i64 0, .int .i64 0, .int .i64 0, .int .i64 0, .int .i64 0, .int .i64 0, .int .i64 0, .int .i64 0, .int .i64 0, .int .i64 0, .bool false, .slice none 0 0, .slice none 0 0, .slice none 0 0] w2 [] [.int .i64 0, .int .i64 0, .int .i64 0, .int .i64 0, .int .i64 0, .int .i64 0, .int .i64 0, .int .i64 0, .int .i64 0, .int .i64 0, .int .i64 0, .int .i64 0, .bool false, .slice none 0 0, .slice none 0 0, .slice none 0 0] hs3 rfl)
      have m2 : Mem (sets w2 w.heap.size 0 [.int .i64 0, .int .i64 0, .int .i64 0, .int .i64 0, .int .i64 0, .int .i64 0, .int .i64 0, .int .i64 0, .int .i64 0, .int .i64 0, .int .i64 0, .int .i64 0, .bool false, .slice none 0 0, .slice none 0 0, .slice none 0 0]) (w.heap.size + 1) 32 #[.int .i64 0] := (sets_heap w.heap.size [.int .i64 0, .int .i64 0, .int .i64 0, .int .i64 0, .int .i64 0, .int .i64 0, .int .i64 0, .int .i64 0, .int .i64 0, .int .i64 0, .int .i64 0, .int .i64 0, .bool false, .slice none 0 0, .slice none 0 0, .slice none 0 0] w2 0 (w.heap.size + 1) (by omega)).trans he3
      have m3 := (m1.far (a := ⟨w.heap.size + 1, 0, none⟩) (by show w.heap.size ≠ w.heap.size + 1; omega) (.int .i64 30)).alloc (.cells #[] 58)
      have m4 := (m2.set_ 0 (.int .i64 30)).alloc (.cells #[] 58)
      have hb4 := ((below_sets hb3 (Nat.le_refl _) 0 [.int .i64 0, .int .i64 0, .int .i64 0, .int .i64 0, .int .i64 0, .int .i64 0, .int .i64 0, .int .i64 0, .int .i64 0, .int .i64 0, .int .i64 0, .int .i64 0, .bool false, .slice none 0 0, .slice none 0 0, .slice none 0 0]).setCell (p := ⟨w.heap.size + 1, 0, none⟩) (by show w.heap.size ≤ w.heap.size + 1; omega) (.int .i64 30)).alloc (by simp only [World.setCell, Array.size_modify]; rw [sets_size]; exact hb3.size) (.cells #[] 58)
      refine leaves_cons (f := 24) (args := #[.pointer (some ⟨w.heap.size, 0, none⟩), .pointer (some ⟨w.heap.size + 1, 0, none⟩)]) (by simp) (by simp [go_sem]) ?_
      refine (catch_panicking w.heap.size (w.heap.size + 1) [.int .i64 0, .int .i64 0, .int .i64 0, .int .i64 0, .int .i64 0, .int .i64 0, .int .i64 0, .int .i64 0, .int .i64 0, .int .i64 0, .int .i64 0, .int .i64 0, .bool false, .slice none 0 0, .slice none 0 0, .slice none 0 0] (.int .i64 0) w2 hs3 rfl he3 (by omega)).mono ?_
      rintro e u' w3 ⟨rfl, rfl, rfl⟩
      exact ⟨_, read_results m3 m4 rfl rfl, hb4, .inr ⟨by have := HL.out; omega, .inl ⟨hn, rfl⟩⟩⟩
    · have hv0 := hv
      obtain ⟨x0, x1, x2, x3, x4, x5, x6, x7, x8, x9, x10, x11, Ai, ci, Ap, cp, Ak, ck, vs, _, rfl, _⟩ := hv0
      have m1 := (sets_mem w.heap.size 29 [.int .i64 x0, .int .i64 x1, .int .i64 x2, .int .i64 x3, .int .i64 x4, .int .i64 x5, .int .i64 x6, .int .i64 x7, .int .i64 x8, .int .i64 x9, .int .i64 x10, .int .i64 x11, .bool s.strong, .slice Ai s.init.length ci, .slice Ap s.progs.length cp, .slice Ak s.picks.length ck] w2 [] [.int .i64 0, .int .i64 0, .int .i64 0, .int .i64 0, .int .i64 0, .int .i64 0, .int .i64 0, .int .i64 0, .int .i64 0, .int .i64 0, .int .i64 0, .int .i64 0, .bool false, .slice none 0 0, .slice none 0 0, .slice none 0 0] hs3 rfl)
      have m2 : Mem (sets w2 w.heap.size 0 [.int .i64 x0, .int .i64 x1, .int .i64 x2, .int .i64 x3, .int .i64 x4, .int .i64 x5, .int .i64 x6, .int .i64 x7, .int .i64 x8, .int .i64 x9, .int .i64 x10, .int .i64 x11, .bool s.strong, .slice Ai s.init.length ci, .slice Ap s.progs.length cp, .slice Ak s.picks.length ck]) (w.heap.size + 1) 32 #[.int .i64 0] := (sets_heap w.heap.size [.int .i64 x0, .int .i64 x1, .int .i64 x2, .int .i64 x3, .int .i64 x4, .int .i64 x5, .int .i64 x6, .int .i64 x7, .int .i64 x8, .int .i64 x9, .int .i64 x10, .int .i64 x11, .bool s.strong, .slice Ai s.init.length ci, .slice Ap s.progs.length cp, .slice Ak s.picks.length ck] w2 0 (w.heap.size + 1) (by omega)).trans he3
      have m3 := (m1.far (a := ⟨w.heap.size + 1, 0, none⟩) (by show w.heap.size ≠ w.heap.size + 1; omega) (.int .i64 0))
      have m4 := (m2.set_ 0 (.int .i64 0))
      have hb4 := ((below_sets hb3 (Nat.le_refl _) 0 [.int .i64 x0, .int .i64 x1, .int .i64 x2, .int .i64 x3, .int .i64 x4, .int .i64 x5, .int .i64 x6, .int .i64 x7, .int .i64 x8, .int .i64 x9, .int .i64 x10, .int .i64 x11, .bool s.strong, .slice Ai s.init.length ci, .slice Ap s.progs.length cp, .slice Ak s.picks.length ck]).setCell (p := ⟨w.heap.size + 1, 0, none⟩) (by show w.heap.size ≤ w.heap.size + 1; omega) (.int .i64 0))
      have hv4 := IsV.blocks (w' := (sets w2 w.heap.size 0 [.int .i64 x0, .int .i64 x1, .int .i64 x2, .int .i64 x3, .int .i64 x4, .int .i64 x5, .int .i64 x6, .int .i64 x7, .int .i64 x8, .int .i64 x9, .int .i64 x10, .int .i64 x11, .bool s.strong, .slice Ai s.init.length ci, .slice Ap s.progs.length cp, .slice Ak s.picks.length ck]).setCell ⟨w.heap.size + 1, 0, none⟩ (.int .i64 0)) (B' := w.heap.size) hv (by rw [size_new]; omega) (fun k hk _ => by
        have hk2 : w.heap.size + 2 < k + 1 := by
          rw [size_new] at hk
          omega
        rw [Below.heap_setCell _ _ _ _ (show k ≠ w.heap.size + 1 by omega)]
        exact sets_heap _ _ _ _ _ (by omega))
      have M3 := Lib.hid m3
      have M4 := Lib.hid m4
      have HB4 := Lib.hid hb4
      have HV4 := Lib.hid hv4
      have HS := Lib.hid hs
      have hfz := hs3.frozen
      have hfe := he3.frozen 0
      have fl3 : ∀ i v, (#[.int .i64 0, .int .i64 0, .int .i64 0, .int .i64 0, .int .i64 0, .int .i64 0, .int .i64 0, .int .i64 0, .int .i64 0, .int .i64 0, .int .i64 0, .int .i64 0, .bool false, .slice none 0 0, .slice none 0 0, .slice none 0 0] : Array Value)[i]? = some v → w2.cell? ⟨w.heap.size, i, none⟩ = some v := fun i v hv => (hs3.cell i).trans hv
      have o0 := fl3 0 _ rfl
      have o1 := fl3 1 _ rfl
      have o2 := fl3 2 _ rfl
      have o3 := fl3 3 _ rfl
      have o4 := fl3 4 _ rfl
      have o5 := fl3 5 _ rfl
      have o6 := fl3 6 _ rfl
      have o7 := fl3 7 _ rfl
      have o8 := fl3 8 _ rfl
      have o9 := fl3 9 _ rfl
      have o10 := fl3 10 _ rfl
      have o11 := fl3 11 _ rfl
      have o12 := fl3 12 _ rfl
      have o13 := fl3 13 _ rfl
      have o14 := fl3 14 _ rfl
      have o15 := fl3 15 _ rfl
      have oe : w2.cell? ⟨w.heap.size + 1, 0, none⟩ = some (.int .i64 0) := he3.cell 0
      clear m1 m2 m3 m4 hb4 hv4 hb3 hs3 he3 hf2 hv HR HB fl3 hs
      go_wp2
      refine leaves_cons (f := 24) (args := #[.pointer (some ⟨w.heap.size, 0, none⟩), .pointer (some ⟨w.heap.size + 1, 0, none⟩)]) (by simp) (by simp [go_sem]) ?_
      refine (catch_idle w.heap.size (w.heap.size + 1) _).mono ?_
      rintro e u' w3 ⟨rfl, rfl, rfl⟩
      exact ⟨_, read_results M3.out M4.out rfl rfl, HB4.out, .inr ⟨by have := HL.out; omega, .inr ⟨s, _, HS.out, rfl, HV4.out⟩⟩⟩
end Go.Proofs.Ytafidppjabdecaa.CodeO
