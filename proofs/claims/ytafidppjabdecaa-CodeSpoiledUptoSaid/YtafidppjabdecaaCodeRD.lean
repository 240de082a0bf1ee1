/-
  The reference's Decode: too many bytes; too few, or others than the four first ones.
-/
import Derived.Test.YtafidppjabdecaaCodeRC
import Derived.Test.YtafidppjabdecaaCodeO
import Derived.Test.YtafidppjabdecaaCodeSame
namespace Go.Proofs.Ytafidppjabdecaa.CodeRD
open Go.ChangeShapes Go.WideShapes Go.ChangeAt Go.RowKit
open PlainT BlkW LawFrame CodeS CodeW CodeA CodeE CodeF CodeG CodeO CodeRA CodeRB CodeRC
set_option linter.unusedVariables false
set_option maxHeartbeats 1000000

theorem decP_few {l : List Int} (h : l.length < 4) : decP l = none := by
  have : rM l = none := by
    match l, h with
    | [], _ => rfl
    | [_], _ => rfl
    | [_, _], _ => rfl
    | [_, _, _], _ => rfl
  unfold decP
  rw [this]
  rfl
/-- A reading of the two results. -/
theorem r_results {w : World} {s : Nat} {a0 a1 a2 a3 a4 a5 a6 a7 a8 a9 a10 a11 a12 a13 a14 a15 ce : Value} {tmps : Array Value} (hs : Mem w s 29 #[a0, a1, a2, a3, a4, a5, a6, a7, a8, a9, a10, a11, a12, a13, a14, a15])
    (h2 : tmps[2]? = some (.pointer (some ⟨s, 0, none⟩))) (h3 : tmps[3]? = some ce) :
    (results Try.f15 tmps).run Try.prog w = .ok (.tuple #[.agg #[a0, a1, a2, a3, a4, a5, a6, a7, a8, a9, a10, a11, a12, a13, a14, a15], ce]) w := by
  have y0 := hs.cell 0
  have y1 := hs.cell 1
  have y2 := hs.cell 2
  have y3 := hs.cell 3
  have y4 := hs.cell 4
  have y5 := hs.cell 5
  have y6 := hs.cell 6
  have y7 := hs.cell 7
  have y8 := hs.cell 8
  have y9 := hs.cell 9
  have y10 := hs.cell 10
  have y11 := hs.cell 11
  have y12 := hs.cell 12
  have y13 := hs.cell 13
  have y14 := hs.cell 14
  have y15 := hs.cell 15
  simp at y0 y1 y2 y3 y4 y5 y6 y7 y8 y9 y10 y11 y12 y13 y14 y15
  simp [results, Try.results15, go_sem, h2, h3, y0, y1, y2, y3, y4, y5, y6, y7, y8, y9, y10, y11, y12, y13, y14, y15]
set_option maxHeartbeats 4000000 in
set_option maxRecDepth 100000 in
theorem r_decode_long (A : Option Addr) (n c : Nat) (l : List Int) (w : World) (hc : n ≤ c) (hm : c ≤ maxLen) (hz : Ints .u8 w A n l) (hl : 262144 < l.length) : Calls Try.prog 15 #[.slice A n c] w fun e w' => DecIs l w e w' := by
  have hn := hz.1
  subst hn
  unfold maxLen at hm
  go_enter Try.func15, Try.ntmps15
  go_wp2
  have m0 := Mem.new w 29 #[.int .i64 0, .int .i64 0, .int .i64 0, .int .i64 0, .int .i64 0, .int .i64 0, .int .i64 0, .int .i64 0, .int .i64 0, .int .i64 0, .int .i64 0, .int .i64 0, .bool false, .slice none 0 0, .slice none 0 0, .slice none 0 0]
  exact bodyPost_ret (r_results m0 rfl rfl) rfl ⟨below_new w _, .inl ⟨hl, rfl⟩⟩
set_option maxHeartbeats 4000000 in
set_option maxRecDepth 100000 in
theorem r_decode_few (A : Option Addr) (n c : Nat) (l : List Int) (w : World) (hc : n ≤ c) (hm : c ≤ maxLen) (hz : Ints .u8 w A n l) (hl : l.length < 4) : Calls Try.prog 15 #[.slice A n c] w fun e w' => DecIs l w e w' := by
  have hn := hz.1
  subst hn
  unfold maxLen at hm
  go_enter Try.func15, Try.ntmps15
  go_wp2
  have m0 := Mem.new w 29 #[.int .i64 0, .int .i64 0, .int .i64 0, .int .i64 0, .int .i64 0, .int .i64 0, .int .i64 0, .int .i64 0, .int .i64 0, .int .i64 0, .int .i64 0, .int .i64 0, .bool false, .slice none 0 0, .slice none 0 0, .slice none 0 0]
  exact bodyPost_ret (r_results m0 rfl rfl) rfl ⟨below_new w _, .inr ⟨by omega, .inl ⟨decP_few hl, rfl⟩⟩⟩
theorem byte_ofNat {a : Int} (h0 : 0 ≤ a) (h1 : a ≤ 255) {k : UInt8} (h : UInt8.ofNat a.toNat = k) : a = (k.toNat : Int) := by
  have := congrArg UInt8.toNat h
  simp at this
  omega
theorem not_magic {a b c d : Int} {r : List Int} (hb : ∀ x ∈ a :: b :: c :: d :: r, 0 ≤ x ∧ x ≤ 255) (hm : rM (a :: b :: c :: d :: r) = none) : strOfNums [a, b, c, d] ≠ ⟨#[83, 84, 88, 49]⟩ := by
  intro h
  have h := congrArg (fun s : ByteArray => s.data.toList) h
  simp only [strOfNums, List.map_cons, List.map_nil, List.cons.injEq, and_true] at h
  obtain ⟨e1, e2, e3, e4⟩ := h
  have a1 := hb a (by simp)
  have a2 := hb b (by simp)
  have a3 := hb c (by simp)
  have a4 := hb d (by simp)
  have f1 := byte_ofNat a1.1 a1.2 e1
  have f2 := byte_ofNat a2.1 a2.2 e2
  have f3 := byte_ofNat a3.1 a3.2 e3
  have f4 := byte_ofNat a4.1 a4.2 e4
  rw [rM, if_pos ⟨f1, f2, f3, f4⟩] at hm
  cases hm
theorem ints_four {w : World} {A : Option Addr} {n : Nat} {a b c d : Int} {r : List Int} (h : Ints .u8 w A n (a :: b :: c :: d :: r)) (o : Obj) : Ints .u8 (w.alloc o) A 4 [a, b, c, d] := by
  refine ⟨rfl, fun z hz => h.2.1 z (by simp at hz ⊢; omega), fun _ => ?_⟩
  have hn := h.1
  simp only [List.length_cons] at hn
  obtain ⟨g, off, e, hb, hc⟩ := h.2.2 (by omega)
  refine ⟨g, off, e, Nat.lt_of_lt_of_le hb ((Old.refl w).alloc o).1, fun i hi => ?_⟩
  rw [World.cell?_of_block (w := w) (((Old.refl w).alloc o).2 g hb), hc i (by omega)]
  match i, hi with
  | 0, _ => rfl
  | 1, _ => rfl
  | 2, _ => rfl
  | 3, _ => rfl
set_option maxHeartbeats 4000000 in
set_option maxRecDepth 100000 in
theorem r_decode_magic (A : Option Addr) (n c : Nat) (l : List Int) (w : World) (hc : n ≤ c) (hm : c ≤ maxLen) (hz : Ints .u8 w A n l) (h4 : 4 ≤ l.length) (hl : l.length ≤ 262144) (hM : rM l = none) : Calls Try.prog 15 #[.slice A n c] w fun e w' => DecIs l w e w' := by
  have hn := hz.1
  have hby : ∀ b ∈ l, 0 ≤ b ∧ b ≤ 255 := by
    intro b hb
    have h2 : IntKind.u8.min ≤ b ∧ b ≤ IntKind.u8.max := by simpa [Lit.wf] using hz.2.1 b hb
    rw [show IntKind.u8.min = 0 by decide, show IntKind.u8.max = 255 by decide] at h2
    exact h2
  have hN : decP l = none := by unfold decP; rw [hM]; rfl
  have HD := Lib.hid (show DecIs l w (.returned (.tuple #[zeroV, .int .i64 30])) (w.alloc (.cells #[.int .i64 0, .int .i64 0, .int .i64 0, .int .i64 0, .int .i64 0, .int .i64 0, .int .i64 0, .int .i64 0, .int .i64 0, .int .i64 0, .int .i64 0, .int .i64 0, .bool false, .slice none 0 0, .slice none 0 0, .slice none 0 0] 29)) from ⟨below_new w _, .inr ⟨hl, .inl ⟨hN, rfl⟩⟩⟩)
  obtain ⟨g, off, rfl, hb, _⟩ := hz.2.2 (by omega)
  match l, h4 with
  | a0 :: a1 :: a2 :: a3 :: r, _ =>
    obtain ⟨s, _, p2, p3⟩ := CodeSame.conv_str (c := c) (ints_four hz (.cells #[.int .i64 0, .int .i64 0, .int .i64 0, .int .i64 0, .int .i64 0, .int .i64 0, .int .i64 0, .int .i64 0, .int .i64 0, .int .i64 0, .int .i64 0, .int .i64 0, .bool false, .slice none 0 0, .slice none 0 0, .slice none 0 0] 29))
    have hs := not_magic hby hM
    rw [← p2 (by omega)] at hs
    have hsl : (s.toList == [83, 84, 88, 49]) = false := by
      rw [ByteArray.toList_eq]
      exact beq_eq_false_iff_ne.2 fun h => hs (bytes_inj h)
    have hn4 : 4 ≤ n := by rw [← hn]; simp
    have hns : n ≤ 262144 := by omega
    clear hz hN hM p2 hby hn hl
    unfold maxLen at hm
    go_enter Try.func15, Try.ntmps15
    go_wp2
    have m0 := Mem.new w 29 #[.int .i64 0, .int .i64 0, .int .i64 0, .int .i64 0, .int .i64 0, .int .i64 0, .int .i64 0, .int .i64 0, .int .i64 0, .int .i64 0, .int .i64 0, .int .i64 0, .bool false, .slice none 0 0, .slice none 0 0, .slice none 0 0]
    exact bodyPost_ret (r_results m0 rfl rfl) rfl HD.out
end Go.Proofs.Ytafidppjabdecaa.CodeRD
