/-
  The reference's Encode; Place.
-/
import Derived.Test.YtafidppjabdecaaCodeY
import Derived.Test.YtafidppjabdecaaCodeU
import Derived.Laws.OwnMore
import Derived.Test.YtafidppjabdecaaCodeE
namespace Go.Proofs.Ytafidppjabdecaa.CodeZ
open Go.ChangeShapes Go.WideShapes Go.ChangeAt Go.RowKit
open PlainT BlkW LawFrame CodeS CodeW CodeA CodeD CodeP CodeU CodeY
set_option linter.unusedVariables false
set_option maxHeartbeats 1000000

set_option maxHeartbeats 4000000 in
set_option maxRecDepth 100000 in
theorem r_encode {s : Scr} {v : Value} {w : World} (h : Holds w w.heap.size s v) (l : List Int) (hl : bytesOf s = l) (hN : l.length ≤ 800000000000) : Calls Try.prog 11 #[v] w fun e w' => EncIs l w e w' := by
  obtain ⟨x0, x1, x2, x3, x4, x5, x6, x7, x8, x9, x10, x11, Ai, ni, ci, Ap, np, cp, Ak, nk, ck, e1, rfl, hx, ⟨i1, i2, i3⟩, ⟨p1, p2, p3⟩, ⟨k1, k2, k3⟩⟩ := h
  rw [e1] at hx
  obtain ⟨cfg, st, init, progs, picks⟩ := s
  simp only at e1
  subst e1
  simp only at i3 p3 k3
  have li := Nat.le_trans i1 i2
  have lp := Nat.le_trans p1 p2
  have lk := Nat.le_trans k1 k2
  obtain ⟨w1, hw1⟩ : ∃ w1, w1 = w.alloc (.cells #[.int .i64 x0, .int .i64 x1, .int .i64 x2, .int .i64 x3, .int .i64 x4, .int .i64 x5, .int .i64 x6, .int .i64 x7, .int .i64 x8, .int .i64 x9, .int .i64 x10, .int .i64 x11, .bool st, .slice Ai ni ci, .slice Ap np cp, .slice Ak nk ck] 29) := ⟨_, rfl⟩
  have hb1 : Below w.heap.size w w1 := hw1 ▸ below_new w _
  have h1 : Calls Try.prog 23 #[.agg #[.int .i64 x0, .int .i64 x1, .int .i64 x2, .int .i64 x3, .int .i64 x4, .int .i64 x5, .int .i64 x6, .int .i64 x7, .int .i64 x8, .int .i64 x9, .int .i64 x10, .int .i64 x11, .bool st, .slice Ai ni ci, .slice Ap np cp, .slice Ak nk ck]] w1 fun e w' => (∃ A c, e = .returned (.slice A l.length c) ∧ Rw w1.heap.size w' (.slice A l.length c) l) ∧ Below w1.heap.size w1 w' :=
    r_bytes x0 x1 x2 x3 x4 x5 x6 x7 x8 x9 x10 x11 st hx Ai Ap Ak ni ci np cp nk ck init picks progs w1 (hw1 ▸ Ints.alloc i3 _) (PPRow.mono (PPRow.old p3 (Old.of_below hb1)) hb1.size) (hw1 ▸ Ints.alloc k3 _) li lp lk l hl hN
  have HW := Lib.hid hw1
  have HB := Lib.hid hb1
  have H1 := Lib.hid h1
  clear h1 hb1 hw1 i3 p3 k3 hx hl
  by_cases hlong : 262144 < l.length
  · have hn : (262144 : Int) < (l.length : Int) := by omega
    have HL := Lib.hid hlong
    obtain ⟨n, hln⟩ : ∃ n, n = l.length := ⟨_, rfl⟩
    rw [← hln] at hn H1
    clear hlong
    go_enter Try.func11, Try.ntmps11
    go_wp2_with fail
    rw [← HW.out]
    refine H1.out.mono ?_
    rintro e w2 ⟨⟨A, c, rfl, hrw⟩, hb2⟩
    clear HW
    go_wp2
    go_ret2
    exact ⟨HB.out.trans (hb2.mono HB.out.size), .inl ⟨HL.out, rfl⟩⟩
  · have hn : ¬ ((262144 : Int) < (l.length : Int)) := by omega
    have HL := Lib.hid (show l.length ≤ 262144 by omega)
    obtain ⟨n, hln⟩ : ∃ n, n = l.length := ⟨_, rfl⟩
    rw [← hln] at hn H1
    have HN := Lib.hid hln
    clear hlong hln
    go_enter Try.func11, Try.ntmps11
    go_wp2_with fail
    rw [← HW.out]
    refine H1.out.mono ?_
    rintro e w2 ⟨⟨A, c, rfl, hrw⟩, hb2⟩
    have HRW := Lib.hid hrw
    clear HW hrw
    go_wp2
    go_ret2
    refine ⟨HB.out.trans (hb2.mono HB.out.size), .inr ⟨HL.out, A, c, ?_, ?_⟩⟩
    · rw [← HN.out]
      rfl
    · rw [← HN.out]
      exact HRW.out.mono HB.out.size
/-- Place. -/
theorem a_place (a n : Int) (hn : 1 ≤ n) (hm : n ≤ 1000000000000) (ha : InI a) (w : World) : Calls Try.prog 16 #[.int .i64 a, .int .i64 n] w fun e w' => (∃ r, e = .returned (.int .i64 r) ∧ 0 ≤ r ∧ r < n) ∧ w = w' := by
  have hs0 : IntKind.i64.signed = true := rfl
  obtain ⟨u, hu⟩ : ∃ u, IntKind.u64.wrap a = u := ⟨_, rfl⟩
  have hu0 : 0 ≤ u ∧ u ≤ 18446744073709551615 := by
    rw [← hu, CodeE.wrapU]
    omega
  obtain ⟨b1, b2⟩ := hu0
  have c1 : 0 ≤ u % n := Int.emod_nonneg _ (by omega)
  have c2 : u % n < n := Int.emod_lt_of_pos _ (by omega)
  have C := Lib.hid (And.intro c1 c2)
  by_cases h0 : 0 ≤ a
  · have e : IntKind.u64.wrap a = a := by
      unfold InI at ha
      rw [CodeE.wrapU]
      omega
    rw [e] at hu
    subst hu
    unfold InI at ha
    obtain ⟨a1, a2⟩ := ha
    clear e
    go_enter Try.func16, Try.ntmps16
    go_wp2
    go_ret
    exact ⟨⟨_, rfl, C.out.1, C.out.2⟩, rfl⟩
  · have h1 : a < 0 := by omega
    go_enter Try.func16, Try.ntmps16
    go_wp2
    go_ret
    exact ⟨⟨_, rfl, C.out.1, C.out.2⟩, rfl⟩
/-! ### What an encoding gives, in one. -/
def errL (l : List Int) : Int := if 262144 < l.length then 3 else 0
def bytL (l : List Int) : List Int := if 262144 < l.length then [] else l
theorem enc_any {l : List Int} {w w' : World} {e : Ending} (h : EncIs l w e w') (hb : ∀ b ∈ l, InB b) : Below w.heap.size w w' ∧ ∃ A n c, e = .returned (.tuple #[.slice A n c, .int .i64 (errL l)]) ∧ Ints .u8 w' A n (bytL l) ∧ n ≤ c ∧ c ≤ maxLen := by
  obtain ⟨h1, h2⟩ := h
  refine ⟨h1, ?_⟩
  rcases h2 with ⟨h3, rfl⟩ | ⟨h3, A, c, rfl, hr⟩
  · refine ⟨none, 0, 0, ?_, ?_, Nat.le_refl _, Nat.zero_le _⟩
    · unfold errL; rw [if_pos h3]
    · unfold bytL; rw [if_pos h3]; exact ⟨rfl, by simp, fun h => absurd h (by omega)⟩
  · obtain ⟨A', c', e0, h4, h5⟩ := hr.slice
    injection e0 with e1 e2 e3
    subst e1 e3
    refine ⟨A, l.length, c, ?_, ?_, h4, h5⟩
    · unfold errL; rw [if_neg (by omega)]
    · unfold bytL; rw [if_neg (by omega)]; exact (hr.ints hb).2
theorem Ints.upto {k : IntKind} {w w' : World} {A : Option Addr} {n : Nat} {z : List Int} (h : Ints k w A n z) (b : Below w.heap.size w w') : Ints k w' A n z :=
  ⟨h.1, h.2.1, fun hn => by
    obtain ⟨b', off, rfl, hb, hc⟩ := h.2.2 hn
    exact ⟨b', off, rfl, Nat.lt_of_lt_of_le hb b.size, fun i hi => by rw [World.cell?_of_block (w := w) (b.block b' hb)]; exact hc i hi⟩⟩
end Go.Proofs.Ytafidppjabdecaa.CodeZ
