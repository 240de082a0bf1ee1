/-
  Contracts of the reader of package code: signed numbers, flags, instructions.
-/
import Derived.Test.YtafidppjabdecaaCodeE
namespace Go.Proofs.Ytafidppjabdecaa.CodeF
open Go.ChangeShapes Go.WideShapes Go.ChangeAt Go.RowKit
open PlainT BlkW LawFrame CodeS CodeW CodeA CodeE
set_option linter.unusedVariables false
set_option maxHeartbeats 1000000

theorem Rd.inB {B g : Nat} {w : World} {l : List Int} (h : Rd B w g l) : ∀ b ∈ l, InB b := Rd.byte h
theorem u_no {B g : Nat} {l : List Int} {w : World} (h : Rd B w g l) (hn : rU l = none) : Calls Try.prog 39 #[.pointer (some ⟨g, 0, none⟩)] w fun e w' => Fails e ∧ Fr TR B w w' :=
  (a_runsigned B g l w h).mono fun e w' ⟨hf, h2⟩ => by
    rcases h2 with ⟨_, h3⟩ | ⟨x, l', h3, _⟩
    · exact ⟨h3, hf⟩
    · rw [hn] at h3; cases h3
theorem u_yes {B g : Nat} {l l' : List Int} {x : Int} {w : World} (h : Rd B w g l) (hs : rU l = some (x, l')) : Calls Try.prog 39 #[.pointer (some ⟨g, 0, none⟩)] w fun e w' => e = .returned (.int .u64 x) ∧ Rd B w' g l' ∧ Fr TR B w w' :=
  (a_runsigned B g l w h).mono fun e w' ⟨hf, h2⟩ => by
    rcases h2 with ⟨h3, _⟩ | ⟨x', l'', h3, h4, h5⟩
    · rw [hs] at h3; cases h3
    · rw [hs] at h3
      injection h3 with h3
      injection h3 with h6 h7
      subst h6 h7
      exact ⟨h4, h5, hf⟩
theorem rS_none {l : List Int} (h : rU l = none) : rS l = none := by unfold rS; rw [h]; rfl
theorem rS_some {l l' : List Int} {x : Int} (h : rU l = some (x, l')) : rS l = some (sU x, l') := by unfold rS; rw [h]; rfl
theorem s_no {B g : Nat} {l : List Int} {w : World} (h : Rd B w g l) (hn : rS l = none) : Calls Try.prog 43 #[.pointer (some ⟨g, 0, none⟩)] w fun e w' => Fails e ∧ Fr TR B w w' := by
  have hn' : rU l = none := by
    unfold rS at hn
    simpa using hn
  go_enter Try.func43, Try.ntmps43
  go_wp2_with (go_at_call 39; refine (u_no h hn').mono ?_; rintro e w1 ⟨rfl, hf⟩)
  exact ⟨rfl, rfl, hf⟩
theorem s_yes {B g : Nat} {l l' : List Int} {x : Int} {w : World} (h : Rd B w g l) (hs : rS l = some (x, l')) : Calls Try.prog 43 #[.pointer (some ⟨g, 0, none⟩)] w fun e w' => e = .returned (.int .i64 x) ∧ Rd B w' g l' ∧ Fr TR B w w' := by
  have hs2 := hs
  unfold rS at hs2
  rw [Option.map_eq_some_iff] at hs2
  obtain ⟨⟨y, r'⟩, h1, h2⟩ := hs2
  simp only [Prod.mk.injEq] at h2
  obtain ⟨h3, rfl⟩ := h2
  have hy : InU y := (exact_u.of l y r' (Rd.inB h) h1).2
  have H3 := Lib.hid h3
  clear h3 hs
  go_enter Try.func43, Try.ntmps43
  go_wp2_with (first | (go_at_call 39; refine (u_yes h h1).mono ?_; rintro e w1 ⟨rfl, hrd, hf⟩) | (go_at_call 47; refine (a_unfold _ _ hy H3.out _).mono ?_; rintro e w2 ⟨rfl, rfl⟩))
  go_ret
  exact ⟨rfl, hrd, hf⟩
/-! ### A flag. -/
theorem f_no {B g : Nat} {l : List Int} {w : World} (h : Rd B w g l) (hn : rF l = none) : Calls Try.prog 44 #[.pointer (some ⟨g, 0, none⟩)] w fun e w' => Fails e ∧ Fr TR B w w' := by
  cases l with
  | nil =>
    go_enter Try.func44, Try.ntmps44
    go_wp2_with (go_at_call 36; refine (a_next_no B g _ h).mono ?_; rintro e w1 ⟨rfl, rfl⟩)
    exact ⟨rfl, rfl, Fr.refl _ _ _⟩
  | cons b r =>
    rw [rF_cons] at hn
    have hb : ¬ b ≤ 1 := by
      intro hb
      rw [if_pos hb] at hn
      cases hn
    have hb' : decide (b ≤ 1) = false := by simpa using hb
    clear hn hb
    go_enter Try.func44, Try.ntmps44
    go_wp2_with (first | (go_at_call 36; refine (a_next_yes B g _ b r h).mono ?_; rintro e w1 ⟨rfl, hrd, hf⟩) | (go_at_call 35; refine (a_require_no _).mono ?_; rintro e w2 ⟨rfl, rfl⟩))
    exact ⟨rfl, rfl, hf⟩
theorem f_yes {B g : Nat} {l l' : List Int} {x : Bool} {w : World} (h : Rd B w g l) (hs : rF l = some (x, l')) : Calls Try.prog 44 #[.pointer (some ⟨g, 0, none⟩)] w fun e w' => e = .returned (.bool x) ∧ Rd B w' g l' ∧ Fr TR B w w' := by
  cases l with
  | nil => cases hs
  | cons b r =>
    rw [rF_cons] at hs
    by_cases hb : b ≤ 1
    · rw [if_pos hb] at hs
      injection hs with hs
      injection hs with h1 h2
      subst h2
      have hb' : decide (b ≤ 1) = true := by simpa using hb
      have h1' : (b == 1) = x := h1
      have H1 := Lib.hid h1'
      clear h1 h1' hb
      go_enter Try.func44, Try.ntmps44
      go_wp2_with (first | (go_at_call 36; refine (a_next_yes B g _ b r h).mono ?_; rintro e w1 ⟨rfl, hrd, hf⟩) | (go_at_call 35; refine (a_require_yes _).mono ?_; rintro e w2 ⟨rfl, rfl⟩))
      go_ret
      exact ⟨ret_bool H1.out, hrd, hf⟩
    · rw [if_neg hb] at hs
      cases hs
end Go.Proofs.Ytafidppjabdecaa.CodeF
