/-
  Contracts of the reader of package code: one byte, a number, a list.
-/
import Derived.Test.YtafidppjabdecaaCodeA
import Derived.Deep.DeepCutAuto
import Derived.WalkSmall
import Derived.Laws.Shifts
import Derived.Laws.Bits64b
import Derived.Laws.BitsLemmas
namespace Go.Proofs.Ytafidppjabdecaa.CodeE
open Go.ChangeShapes Go.WideShapes Go.ChangeAt Go.RowKit
open PlainT BlkW LawFrame CodeS CodeW CodeA
set_option linter.unusedVariables false
set_option maxHeartbeats 1000000

/-- The type of the block that a reader writes to. -/
def TR : List Nat := [62]
/-- The reader in block g has the bytes l left. -/
def Rd (B : Nat) (w : World) (g : Nat) (l : List Int) : Prop := B ≤ g ∧ B ≤ w.heap.size ∧ l.length ≤ 262144 ∧ ∃ A n c, Mem w g 62 #[.slice A n c] ∧ n ≤ c ∧ c ≤ maxLen ∧ Ints .u8 w A n l ∧ (0 < n → ∀ a, A = some a → a.block < B)
/-- The reader's own panic. -/
def Fails (e : Ending) : Prop := e = .panicked [{ v := .iface 58 (.agg #[]), recovered := false }]
theorem Rd.old {B g : Nat} {w w' : World} {l : List Int} (h : Rd B w g l) (k : Old w w') : Rd B w' g l := by
  obtain ⟨h1, h2, h3, A, n, c, h4, h5, h6, h7, h8⟩ := h
  refine ⟨h1, Nat.le_trans h2 k.1, h3, A, n, c, h4.old k, h5, h6, ⟨h7.1, h7.2.1, fun hn => ?_⟩, h8⟩
  obtain ⟨b, off, rfl, hb', hc⟩ := h7.2.2 hn
  exact ⟨b, off, rfl, Nat.lt_of_lt_of_le hb' k.1, fun i hi => by rw [World.cell?_of_block (w := w) (k.2 b hb')]; exact hc i hi⟩
/-- A store into a block of the call's own that is not the reader's. -/
theorem Rd.far {B g : Nat} {w : World} {l : List Int} (h : Rd B w g l) {p : Addr} (hp : B ≤ p.block) (hg : g ≠ p.block) (u : Value) : Rd B (w.setCell p u) g l := by
  obtain ⟨h1, h2, h3, A, n, c, h4, h5, h6, h7, h8⟩ := h
  refine ⟨h1, by simp only [World.setCell, Array.size_modify]; exact h2, h3, A, n, c, h4.far hg u, h5, h6, ⟨h7.1, h7.2.1, fun hn => ?_⟩, h8⟩
  obtain ⟨b, off, rfl, hb', hc⟩ := h7.2.2 hn
  have : b < B := h8 hn _ rfl
  exact ⟨b, off, rfl, by simp only [World.setCell, Array.size_modify]; exact hb', fun i hi => by rw [World.cell?_of_block (w := w) (Below.heap_setCell _ _ _ _ (show b ≠ p.block by omega))]; exact hc i hi⟩
/-- Blocks of the call's own are written that are not the reader's. -/
theorem Rd.grown {B g : Nat} {w w' : World} {l : List Int} (h : Rd B w g l) {row : Option Nat} (hg : w.grownBy w' row) (hr : ∀ k, row = some k → B ≤ k ∧ k ≠ g) : Rd B w' g l := by
  obtain ⟨h1, h2, h3, A, n, c, h4, h5, h6, h7, h8⟩ := h
  refine ⟨h1, Nat.le_trans h2 hg.size, h3, A, n, c, (hg.block g h4.lt (fun e => (hr g e.symm).2 rfl)).trans h4, h5, h6, ⟨h7.1, h7.2.1, fun hn => ?_⟩, h8⟩
  obtain ⟨b, off, rfl, hb', hc⟩ := h7.2.2 hn
  have : b < B := h8 hn _ rfl
  exact ⟨b, off, rfl, Nat.lt_of_lt_of_le hb' hg.size, fun i hi => by rw [World.cell?_of_block (w := w) (hg.block b hb' (fun e => by have := (hr b e.symm).1; omega))]; exact hc i hi⟩
theorem Rd.alloc {B g : Nat} {w : World} {l : List Int} (h : Rd B w g l) (o : Obj) : Rd B (w.alloc o) g l := h.old ((Old.refl w).alloc o)
theorem a_require_yes (w : World) : Calls Try.prog 35 #[.bool true] w fun e w' => e = .returned (.tuple #[]) ∧ w = w' := by
  go_enter Try.func35, Try.ntmps35
  go_wp2
  go_end0
  exact ⟨rfl, rfl⟩
theorem a_require_no (w : World) : Calls Try.prog 35 #[.bool false] w fun e w' => Fails e ∧ w = w' := by
  go_enter Try.func35, Try.ntmps35
  go_wp2
  exact ⟨rfl, rfl, rfl⟩
theorem fr_newR {B : Nat} {w : World} (hB : B ≤ w.heap.size) (o : Obj) : Fr TR B w (w.alloc o) := Fr.of_below (below_new w o) hB
theorem a_next_no (B g : Nat) (w : World) (h : Rd B w g []) : Calls Try.prog 36 #[.pointer (some ⟨g, 0, none⟩)] w fun e w' => Fails e ∧ w = w' := by
  obtain ⟨h1, h2, h3, A, n, c, h4, h5, h6, h7, h8⟩ := h
  obtain rfl : n = 0 := h7.1.symm
  have d0 : w.cell? ⟨g, 0, none⟩ = some (.slice A 0 c) := h4.cell 0
  clear h7 h8 h4
  go_enter Try.func36, Try.ntmps36
  go_wp2_with (go_at_call 35; refine (a_require_no _).mono ?_; rintro e w1 ⟨rfl, rfl⟩)
  exact ⟨rfl, rfl, rfl⟩
def NextIs (B g : Nat) (w : World) (b : Int) (r : List Int) (e : Ending) (w' : World) : Prop := e = .returned (.int .u8 b) ∧ Rd B w' g r ∧ Fr TR B w w'
theorem a_next_yes (B g : Nat) (w : World) (b : Int) (r : List Int) (h : Rd B w g (b :: r)) : Calls Try.prog 36 #[.pointer (some ⟨g, 0, none⟩)] w fun e w' => NextIs B g w b r e w' := by
  obtain ⟨h1, h2, h3, A, n, c, h4, h5, h6, h7, h8⟩ := h
  have hn : r.length + 1 = n := h7.1
  subst hn
  obtain ⟨b0, off, rfl, hb, hc⟩ := h7.2.2 (by omega)
  have d0 : w.cell? ⟨g, 0, none⟩ = some (.slice (some ⟨b0, off, none⟩) (r.length + 1) c) := h4.cell 0
  have d1 : w.cell? ⟨b0, off, none⟩ = some (.int .u8 b) := hc 0 (by omega)
  have dz := h4.frozen 0
  have hgl := h4.lt
  have hwf := h7.2.1
  have hb0B : b0 < B := h8 (by omega) _ rfl
  have hne : b0 ≠ g := by omega
  have hfr : ∀ v, Fr TR B w (w.setCell ⟨g, 0, none⟩ v) := fun v => Fr.setCell (p := ⟨g, 0, none⟩) (Fr.refl TR B w) h1 h4 (by unfold TR; simp) v
  have HFR := Lib.hid hfr
  have H4 := Lib.hid h4
  have HC := Lib.hid hc
  have HW := Lib.hid hwf
  have mk : ∀ A', (0 < r.length → A' = some ⟨b0, off + 1, none⟩) → Rd B (w.setCell ⟨g, 0, none⟩ (.slice A' r.length (c - 1))) g r := by
    intro A' hA
    refine ⟨h1, by simp only [World.setCell, Array.size_modify]; omega, by simp at h3; omega, A', r.length, c - 1, H4.out.set_ 0 (.slice A' r.length (c - 1)), by omega, by omega, ⟨rfl, fun z hz => HW.out z (by simp [hz]), fun hr => ?_⟩, fun hr => ?_⟩
    · refine ⟨b0, off + 1, hA hr, by simp only [World.setCell, Array.size_modify]; omega, fun i hi => ?_⟩
      rw [World.cell?_of_block (w := w) (Below.heap_setCell _ _ _ _ hne)]
      have := HC.out (i + 1) (by omega)
      rw [show off + 1 + i = off + (i + 1) by omega, this]
      rfl
    · rw [hA hr]
      intro a ha
      cases ha
      exact hb0B
  have MK := Lib.hid mk
  have hsg : IntKind.i64.signed = true := rfl
  clear mk hfr h4 h7 h8 hc hwf hne hb0B
  unfold maxLen at h6
  simp only [List.length_cons] at h3
  by_cases hc1 : c = 1
  · have hr0 : r.length = 0 := by omega
    subst hc1
    rw [hr0] at d0
    have MK0 := Lib.hid (MK.out (some ⟨b0, off, none⟩) (by omega))
    rw [hr0] at MK0
    go_enter Try.func36, Try.ntmps36
    go_wp2_with (go_at_call 35; refine (a_require_yes _).mono ?_; rintro e w1 ⟨rfl, rfl⟩)
    go_ret
    exact ⟨rfl, MK0.out, HFR.out _⟩
  · have hc2 : 1 < c := by omega
    go_enter Try.func36, Try.ntmps36
    go_wp2_with (go_at_call 35; refine (a_require_yes _).mono ?_; rintro e w1 ⟨rfl, rfl⟩)
    go_ret
    exact ⟨rfl, MK.out _ (fun _ => rfl), HFR.out _⟩
/-! Shifts of seven bits. -/
def shX (k : Nat) (m : Int) : Int := IntKind.u64.wrap (m * 2 ^ min (7 * k) 64)
def shY (k : Nat) (m : Int) : Int := shX k m / 2 ^ min (7 * k) 64
theorem toNat7 (k : Nat) : (7 * (k : Int)).toNat = 7 * k := by omega
theorem run_shl (k : Nat) (m : Int) : Op.shift .shl .u64 m .i64 (7 * (k : Int)) = pure (.int .u64 (shX k m)) := by
  rw [shift_shl_any _ _ _ _ (by omega), toNat7]
  rfl
theorem run_shr (k : Nat) (m : Int) : Op.shift .shr .u64 (shX k m) .i64 (7 * (k : Int)) = pure (.int .u64 (shY k m)) := by
  rw [shift_shr_any _ _ _ _ (by omega), toNat7]
  rfl
theorem pow7 (k : Nat) : (2 : Int) ^ (7 * k) = 128 ^ k := by rw [Int.pow_mul]; rfl
theorem wrapU (n : Int) : IntKind.u64.wrap n = n % 18446744073709551616 := by simp [IntKind.wrap, IntKind.bits, IntKind.signed]
theorem sh_small {k : Nat} (h : k ≤ 8) {m : Int} (h0 : 0 ≤ m) (h1 : m < 128) : shX k m = m * 128 ^ k ∧ shY k m = m := by
  have e : min (7 * k) 64 = 7 * k := by omega
  have hp := pow_pos k
  have hx : shX k m = m * 128 ^ k := by
    unfold shX
    rw [e, pow7, wrapU]
    have P := pow_num
    have : k = 0 ∨ k = 1 ∨ k = 2 ∨ k = 3 ∨ k = 4 ∨ k = 5 ∨ k = 6 ∨ k = 7 ∨ k = 8 := by omega
    rcases this with rfl | rfl | rfl | rfl | rfl | rfl | rfl | rfl | rfl <;> simp only [P] <;> omega
  refine ⟨hx, ?_⟩
  unfold shY
  rw [hx, e, pow7, Int.mul_ediv_cancel _ (by omega)]
theorem sh_nine {m : Int} (h0 : 0 ≤ m) (h1 : m < 128) : (m ≤ 1 → shX 9 m = m * 128 ^ 9) ∧ shY 9 m = m % 2 := by
  have e : min (7 * 9) 64 = 7 * 9 := by decide
  have p9 := pow_num.2.2.2.2.2.2.2.2.2.1
  have hx : shX 9 m = m % 2 * 9223372036854775808 := by
    unfold shX
    rw [e, pow7, wrapU, p9]
    omega
  refine ⟨fun h => by rw [hx, p9]; omega, ?_⟩
  unfold shY
  rw [hx, e, pow7, p9, Int.mul_ediv_cancel _ (by decide)]
theorem sh_big {k : Nat} (h : 10 ≤ k) (m : Int) : shX k m = 0 ∧ shY k m = 0 := by
  have e : min (7 * k) 64 = 64 := by omega
  have hx : shX k m = 0 := by
    unfold shX
    rw [e, wrapU]
    have : (2 : Int) ^ 64 = 18446744073709551616 := by decide
    rw [this]
    omega
  refine ⟨hx, ?_⟩
  unfold shY
  rw [hx]
  simp
/-- The test of the program is the parser's. -/
theorem sh_ok (k : Nat) (b : Int) : (shY k (b % 128) == b % 128) = okB k b := by
  unfold okB
  rw [Bool.eq_iff_iff]
  simp only [beq_iff_eq, Bool.or_eq_true, decide_eq_true_eq, Bool.and_eq_true]
  rcases Nat.lt_or_ge 8 k with h | h
  · rcases Nat.lt_or_ge 9 k with h9 | h9
    · rw [(sh_big (by omega) _).2]
      omega
    · obtain rfl : k = 9 := by omega
      rw [(sh_nine (by omega) (by omega)).2]
      omega
  · rw [(sh_small h (by omega) (by omega)).2]
    omega
theorem sh_val {k : Nat} {b : Int} (h : okB k b = true) : shX k (b % 128) = b % 128 * 128 ^ k := by
  unfold okB at h
  simp only [Bool.or_eq_true, decide_eq_true_eq, Bool.and_eq_true] at h
  rcases Nat.lt_or_ge 8 k with h8 | h8
  · rcases Nat.lt_or_ge 9 k with h9 | h9
    · rw [(sh_big (by omega) _).1, show b % 128 = 0 by omega]
      simp
    · obtain rfl : k = 9 := by omega
      exact (sh_nine (by omega) (by omega)).1 (by omega)
  · exact (sh_small h8 (by omega) (by omega)).1
theorem acc_step {k : Nat} {acc b : Int} (h : okB k b = true) (ha : InU acc) (hk : k ≤ 9 → acc < 128 ^ k) : InU (acc + b % 128 * 128 ^ k) ∧ (k + 1 ≤ 9 → acc + b % 128 * 128 ^ k < 128 ^ (k + 1)) ∧ bits .or .u64 acc (b % 128 * 128 ^ k) = acc + b % 128 * 128 ^ k := by
  have hu := ha
  unfold InU at ha ⊢
  unfold okB at h
  simp only [Bool.or_eq_true, decide_eq_true_eq, Bool.and_eq_true] at h
  rcases Nat.lt_or_ge 9 k with h9 | h9
  · have e : b % 128 = 0 := by omega
    rw [e, Int.zero_mul, Int.add_zero]
    refine ⟨ha, by omega, ?_⟩
    obtain ⟨a, rfl⟩ := Int.eq_ofNat_of_zero_le ha.1
    have := bits_or_u64_nat a 0 (by omega) (by omega)
    rw [show ((0 : Nat) : Int) = 0 from rfl] at this
    rw [this]
    simp
  · have hlt := hk h9
    have key : 0 ≤ b % 128 * 128 ^ k ∧ acc + b % 128 * 128 ^ k ≤ 18446744073709551615 ∧ (k + 1 ≤ 9 → acc + b % 128 * 128 ^ k < 128 ^ (k + 1)) ∧ b % 128 * 128 ^ k < 18446744073709551616 := by
      have P := pow_num
      have : k = 0 ∨ k = 1 ∨ k = 2 ∨ k = 3 ∨ k = 4 ∨ k = 5 ∨ k = 6 ∨ k = 7 ∨ k = 8 ∨ k = 9 := by omega
      rcases this with rfl | rfl | rfl | rfl | rfl | rfl | rfl | rfl | rfl | rfl <;> simp only [P, Nat.reduceAdd] at hlt ⊢ <;> omega
    refine ⟨by omega, key.2.2.1, ?_⟩
    have e64 : (2 : Int) ^ 64 = 18446744073709551616 := by decide
    have hj := bits_join .u64 64 (by decide) (fun n h0 h1 => by rw [wrapU]; rw [e64] at h1; omega) (7 * k) (b % 128 * 128 ^ k) acc key.1 (by rw [pow7]; exact Int.mul_emod_left _ _) (by rw [e64]; omega) ha.1 (by rw [pow7]; exact hlt) (by rw [e64]; omega)
    obtain ⟨a, hA⟩ := Int.eq_ofNat_of_zero_le ha.1
    obtain ⟨x, hX⟩ := Int.eq_ofNat_of_zero_le key.1
    rw [hA, hX] at hj ⊢
    rw [bits_or_u64_nat _ _ (by omega) (by omega)] at hj ⊢
    rw [Nat.or_comm, hj]
    omega
theorem Rd.byte {B g : Nat} {w : World} {l : List Int} (h : Rd B w g l) : ∀ b ∈ l, 0 ≤ b ∧ b ≤ 255 := by
  obtain ⟨_, _, _, A, n, c, _, _, _, h7, _⟩ := h
  intro b hb
  have h2 : IntKind.u8.min ≤ b ∧ b ≤ IntKind.u8.max := by simpa [Lit.wf] using h7.2.1 b hb
  rw [show IntKind.u8.min = 0 by decide, show IntKind.u8.max = 255 by decide] at h2
  exact h2
/-- What reading a value of the parser's answer gives. -/
def UIs (B g : Nat) (w : World) (r : Option (Int × List Int)) (e : Ending) (w' : World) : Prop := Fr TR B w w' ∧ ((r = none ∧ Fails e) ∨ ∃ x l, r = some (x, l) ∧ e = .returned (.int .u64 x) ∧ Rd B w' g l)
def UR (B g : Nat) (w : World) (l : List Int) (n sh : Value) (wr : World) : Prop := ∃ (k : Nat) (acc : Int) (lk : List Int), n = .int .u64 acc ∧ sh = .int .i64 (7 * k) ∧ InU acc ∧ (k ≤ 9 → acc < 128 ^ k) ∧ Rd B wr g lk ∧ lk.length + k = l.length ∧ rdU 0 0 l = rdU k acc lk ∧ Fr TR B w wr
set_option maxHeartbeats 4000000 in
set_option maxRecDepth 100000 in
theorem a_runsigned (B g : Nat) (l : List Int) (w : World) (h : Rd B w g l) : Calls Try.prog 39 #[.pointer (some ⟨g, 0, none⟩)] w fun e w' => UIs B g w (rU l) e w' := by
  have hl := h.2.2.1
  have hsg : IntKind.i64.signed = true := rfl
  go_enter Try.func39, Try.ntmps39
  go_wp2
  go_loopw [3, 4] (fun n sh wr => UR B g w l n sh wr) (fun _ sh _ => 2000000 - (intOf sh).toNat)
  case atStart => exact ⟨0, 0, l, rfl, rfl, ⟨by omega, by omega⟩, fun _ => by decide, h, rfl, rfl, Fr.refl _ _ _⟩
  case round =>
    obtain ⟨k, acc, lk, rfl, rfl, ha, hak, hrd, hlen, heq, hfr⟩ := hrel
    have HEQ := Lib.hid heq
    have HAK := Lib.hid hak
    clear heq hak
    cases lk with
    | nil =>
      go_wp2_with (go_at_call 36; refine (a_next_no B g _ hrd).mono ?_; rintro e w1 ⟨rfl, rfl⟩)
      exact ⟨rfl, hfr, .inl ⟨HEQ.out, rfl⟩⟩
    | cons b r =>
      have hbb : 0 ≤ b ∧ b ≤ 255 := hrd.byte b (by simp)
      obtain ⟨hb0, hb1⟩ := hbb
      have hlr : r.length + 1 + k = l.length := by simpa using hlen
      have s1 := run_shl k (b % 128)
      have s2 := run_shr k (b % 128)
      have s3 := sh_ok k b
      obtain ⟨X, hX⟩ : ∃ X, shX k (b % 128) = X := ⟨_, rfl⟩
      obtain ⟨Y, hY⟩ : ∃ Y, shY k (b % 128) = Y := ⟨_, rfl⟩
      have HX := Lib.hid hX
      have HB1 := Lib.hid (show k = 0 → IntKind.u64.wrap (b % 128 * 2 ^ (7 * k)) = X by
        rintro rfl
        rw [← hX]
        rfl)
      have HB2 := Lib.hid (show k = 0 → X / 2 ^ (7 * k) = Y by
        rintro rfl
        rw [← hY, ← hX]
        rfl)
      rw [hX] at s1 s2
      rw [hY] at s2 s3
      clear hX hY hlen
      cases hok : okB k b with
      | false =>
        rw [hok] at s3
        have HN := Lib.hid (show rU l = none by unfold rU; rw [HEQ.out, rdU, hok]; rfl)
        clear hok
        go_wp2_with (first | (go_at_call 36; refine (a_next_yes B g _ b r hrd).mono ?_; rintro e w1 ⟨rfl, hrd1, hf1⟩) | (go_at_call 35; refine (a_require_no _).mono ?_; rintro e w2 ⟨rfl, rfl⟩))
        exact ⟨rfl, hfr.trans hf1, .inl ⟨HN.out, rfl⟩⟩
      | true =>
        rw [hok] at s3
        have hX := HX.out
        rw [sh_val hok] at hX
        obtain ⟨q1, q2, q3⟩ := acc_step hok ha HAK.out
        rw [hX] at q1 q2 q3
        obtain ⟨acc', hacc⟩ : ∃ a, acc + X = a := ⟨_, rfl⟩
        rw [hacc] at q1 q2 q3
        have HR := Lib.hid (show rU l = if b < 128 then if b = 0 ∧ k ≠ 0 then none else some (acc', r) else rdU (k + 1) acc' r by unfold rU; rw [HEQ.out, rdU, hok, hX, hacc]; rfl)
        have Q1 := Lib.hid q1
        have Q2 := Lib.hid q2
        clear hX hacc hok q1 q2 HX
        by_cases h128 : b < 128
        · by_cases hz : b = 0
          · by_cases hk0 : k = 0
            · have g1 : (b != 0) = false := by simpa using hz
              have g2 : ((7 * (k : Int)) == 0) = true := by simp; omega
              have HR2 := Lib.hid (show rU l = some (acc', r) by rw [HR.out, if_pos h128, if_neg (by omega)])
              have b1 := HB1.out hk0
              have b2 := HB2.out hk0
              clear hz hk0 HR
              go_wp2_with (first | (go_at_call 36; refine (a_next_yes B g _ b r hrd).mono ?_; rintro e w1 ⟨rfl, hrd1, hf1⟩) | (go_at_call 35; refine (a_require_yes _).mono ?_; rintro e w2 ⟨rfl, rfl⟩))
              go_ret
              exact ⟨hfr.trans hf1, .inr ⟨_, _, HR2.out, rfl, hrd1⟩⟩
            · have g1 : (b != 0) = false := by simpa using hz
              have g2 : ((7 * (k : Int)) == 0) = false := by simp; omega
              have HR2 := Lib.hid (show rU l = none by rw [HR.out, if_pos h128, if_pos ⟨hz, hk0⟩])
              clear hz hk0 HR
              go_wp2_with (first | (go_at_call 36; refine (a_next_yes B g _ b r hrd).mono ?_; rintro e w1 ⟨rfl, hrd1, hf1⟩) | (go_at_call 35; first | (refine (a_require_yes _).mono ?_; rintro e w2 ⟨rfl, rfl⟩) | (refine (a_require_no _).mono ?_; rintro e w2 ⟨rfl, rfl⟩)))
              exact ⟨rfl, hfr.trans hf1, .inl ⟨HR2.out, rfl⟩⟩
          · have g1 : (b != 0) = true := by simpa using hz
            have HR2 := Lib.hid (show rU l = some (acc', r) by rw [HR.out, if_pos h128, if_neg (by omega)])
            clear HR
            go_wp2_with (first | (go_at_call 36; refine (a_next_yes B g _ b r hrd).mono ?_; rintro e w1 ⟨rfl, hrd1, hf1⟩) | (go_at_call 35; refine (a_require_yes _).mono ?_; rintro e w2 ⟨rfl, rfl⟩))
            go_ret
            exact ⟨hfr.trans hf1, .inr ⟨_, _, HR2.out, rfl, hrd1⟩⟩
        · have HR2 := Lib.hid (show rU l = rdU (k + 1) acc' r by rw [HR.out, if_neg h128])
          have hge : 128 ≤ b := by omega
          clear HR
          go_wp2_with (first | (go_at_call 36; refine (a_next_yes B g _ b r hrd).mono ?_; rintro e w1 ⟨rfl, hrd1, hf1⟩) | (go_at_call 35; refine (a_require_yes _).mono ?_; rintro e w2 ⟨rfl, rfl⟩))
          go_roundw
          case rel => exact ⟨k + 1, acc', r, rfl, by go_num, Q1.out, Q2.out, hrd1, by omega, HR2.out, hfr.trans hf1⟩
          case measure => simp [intOf]; omega
end Go.Proofs.Ytafidppjabdecaa.CodeE
