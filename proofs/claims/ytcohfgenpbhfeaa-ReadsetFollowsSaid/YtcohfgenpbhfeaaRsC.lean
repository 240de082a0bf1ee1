/-
  The check that the laws of layer 12 run at their ends.
-/
import Derived.Test.YtcohfgenpbhfeaaRsB
namespace Go.Proofs.Ytcohfgenpbhfeaa.RsC
open Go.ChangeShapes Go.WideShapes Go.ChangeAt Go.RowKit
open PlainT BlkW CelS CelM CelV CelN LabD FreV FreI RsA RsB
set_option linter.unusedVariables false
set_option maxHeartbeats 1000000
set_option maxRecDepth 100000

theorem below_trans2 {a b c : World} (h : Below a.heap.size a b) (k : Below b.heap.size b c) : Below a.heap.size a c := h.trans (k.mono h.size)
theorem l_awake (w : World) : Calls Try.prog 7 #[] w fun e w' => e = .returned (.bool true) ∧ Below w.heap.size w w' := by
  go_enter Try.func7, Try.ntmps7
  go_upto_region 4 with (go_at_call 8; refine (a_new _ _ 2 (by decide)).mono ?_; rintro e w1 ⟨rfl, rfl⟩)
  have hS0 := set_new w TS w.heap.size 2 (by decide) (Nat.le_refl _) (by decide) (by decide)
  have hB0 := below_new w (.cells #[.int .i64 2, .slice none 0 0] TS)
  obtain ⟨W0, hW⟩ : ∃ W', w.alloc (.cells #[.int .i64 2, .slice none 0 0] TS) = W' := ⟨_, rfl⟩
  rw [hW] at hS0 hB0
  first | rw [hW] | skip
  clear hW
  have HB0 := Lib.hid hB0
  have hz := hB0.size
  clear hB0
  have c0 := a_add_to hS0 hz 5 true [5] (by decide) (by decide)
  go_upto_region 5 with (first
    | (go_at_call 11; (with_reducible refine c0.mono ?_); rintro e w2 ⟨rfl, v1, hS1, hF1, _⟩; have hB1 := HB0.out.trans (hS0.step hz hF1); have hz1 := hB1.size; have c1 := a_add_to hS1 hz1 6 true [5, 6] (by decide) (by decide))
    | (go_at_call 11; (with_reducible refine c1.mono ?_); rintro e w3 ⟨rfl, v2, hS2, hF2, _⟩; have hB2 := hB1.trans (hS1.step hz1 hF2); have hz2 := hB2.size; have c2 := a_add_to hS2 hz2 5 true [5, 6] (by decide) (by decide))
    | (go_at_call 11; (with_reducible refine c2.mono ?_); rintro e w4 ⟨rfl, v3, hS3, hF3, _⟩; have hB3 := hB2.trans (hS2.step hz2 hF3); have hz3 := hB3.size; have c3 := a_add_to hS3 hz3 7 false [5, 6] (by decide) (by decide))
    | (go_at_call 11; (with_reducible refine c3.mono ?_); rintro e w5 ⟨rfl, v4, hS4, hF4, _⟩; have hB4 := hB3.trans (hS3.step hz3 hF4); have hz4 := hB4.size))
  have HB := Lib.hid hB4
  have HS := Lib.hid hS4
  clear hS0 hS1 hS2 hS3 hS4 hF1 hF2 hF3 hF4 hB1 hB2 hB3 hB4 hz1 hz2 hz3 HB0 c0 c1 c2 c3
  have hh := a_has _ _ _ _ _ _ 6 HS.out
  have hl := a_len _ _ _ _ _ _ HS.out
  have hli := a_list _ _ _ _ _ _ HS.out
  rw [show decide ((6 : Int) ∈ [5, 6]) = true by decide] at hh
  go_wp2_with (first
    | (go_at_call 16; refine hh.mono ?_; rintro e x1 ⟨rfl, rfl⟩)
    | (go_at_call 13; refine hl.mono ?_; rintro e x2 ⟨rfl, rfl⟩)
    | (go_at_call 15; refine hli.mono ?_; rintro e x3 ⟨y, rfl, hy, hO, hBl⟩)
    | (go_at_call 14; refine (k_ints _ _ _ [5, 6] (rdi_below (rdi_own hO) (below_new _ _)) (rdi_lit _ [5, 6]) (by decide)).mono ?_; rintro e x4 ⟨rfl, hws⟩))
  go_ret
  obtain ⟨nd, rfl⟩ := hws
  exact ⟨rfl, below_drewN (below_trans2 HB.out (below_trans2 hBl (below_new _ _))) nd⟩
theorem iat {w0 w : World} {A : Option Addr} {n : Nat} {z : List Int} (h : LawFrame.Ints .i64 w0 A n z) (ho : Below w0.heap.size w0 w) {k : Nat} (hk : k < n) : ∃ b off x, A = some ⟨b, off, none⟩ ∧ b < w0.heap.size ∧ w.cell? ⟨b, off + k, none⟩ = some (.int .i64 x) := by
  obtain ⟨h1, h2, h3⟩ := h
  obtain ⟨b, off, rfl, hb, hc⟩ := h3 (by omega)
  exact ⟨b, off, _, rfl, hb, (World.cell?_of_block (ho.block b hb)).trans (hc k hk)⟩
/-- Two rows of the call's own lie in different blocks. -/
def Dis (v u : Value) : Prop := ∀ y, v.ownBlock = some y → u.ownBlock ≠ some y
theorem Dis.symm {v u : Value} (h : Dis v u) : Dis u v := fun y h1 h2 => h y h2 h1
theorem Dis.left {v v' u : Value} {S : Nat} (h : Dis v u) (k : v'.ownBlock = v.ownBlock ∨ ∃ y, v'.ownBlock = some y ∧ S ≤ y) (hu : ∀ y, u.ownBlock = some y → y < S) : Dis v' u := by
  intro y h1 h2
  rcases k with k | ⟨x, k1, k2⟩
  · exact h y (k ▸ h1) h2
  · rw [k1] at h1
    injection h1 with h1
    have := hu y h2
    omega
theorem own_lt {w : World} {B : Nat} {v : Value} {xs : List Int} (h : OwnI w B v xs) : ∀ y, v.ownBlock = some y → y < w.heap.size := fun y hy => (h.lt y hy).2
/-- A row beside a set: a set's step leaves it. -/
theorem beside {w w' : World} {B g : Nat} {t : TypeId} {cap : Int} {v u : Value} {xs ys : List Int} (h : SetIs w B g t cap v xs) (ho : OwnI w B u ys) (hd : Dis v u) (k : Fr (PS g v) w w') : OwnI w' B u ys :=
  own_fr ho k fun y hy hp => by
    rcases hp with rfl | hp
    · exact own_ne_mem ho h.box h.ne hy
    · exact hd y hp hy
/-- A row's step leaves a set beside it. -/
theorem set_beside {w w' : World} {B g : Nat} {t : TypeId} {cap : Int} {v u : Value} {xs ys : List Int} (h : SetIs w B g t cap v xs) (ho : OwnI w B u ys) (hd : Dis v u) (hos : w'.os = w.os) (htp : w'.tape = w.tape) (hout : w'.output = w.output) (hsz : w.heap.size ≤ w'.heap.size) (hb : ∀ y, y < w.heap.size → u.ownBlock ≠ some y → w'.heap[y]? = w.heap[y]?) : SetIs w' B g t cap v xs :=
  h.fr (P := fun y => u.ownBlock = some y) ⟨hos, htp, hout, hsz, fun y hy hn => hb y hy hn⟩ (own_ne_mem ho h.box h.ne) fun y hy => hd y hy
end Go.Proofs.Ytcohfgenpbhfeaa.RsC
