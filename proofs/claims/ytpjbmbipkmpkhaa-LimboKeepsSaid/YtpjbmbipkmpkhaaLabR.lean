/-
  The reference's operations on cells, over both machines' cells side by side.
-/
import Derived.Test.YtpjbmbipkmpkhaaCelLo
namespace Go.Proofs.Ytpjbmbipkmpkhaa.LabR
open Go.RowKit
open PlainT BlkW LayS CelS CelM CelV CelN CelF CelLo LabD
set_option linter.unusedVariables false
section
variable {lo hi b rb : Nat} {w : World} {q : Cfg} {A B : Int → List Int}
theorem s_load (h : Duo lo hi w b rb q A B) (k : Int) (hk : 1 ≤ k ∧ k ≤ 8) (i : Nat) (hlt : i < (B k).length) (x : Int) (hx : (B k).getD i 0 = x) : Calls Try.prog 71 #[.pointer (some ⟨rb, 0, none⟩), .int .i64 k, .int .i64 i] w fun e w' => e = .returned (accV 1 k i x x true) ∧ Duo lo hi w' b rb q A B ∧ Stay lo hi w w' := by
  obtain ⟨m1, m2, h1, h2, hm, ho⟩ := h
  refine (r_load m2 hi w rb q B h2 ho k hk i hlt x hx).mono ?_
  rintro e w' ⟨he, hI, hS⟩
  exact ⟨he, Duo.right h1 hm ho hI hS⟩
theorem s_store (h : Duo lo hi w b rb q A B) (k : Int) (hk : 1 ≤ k ∧ k ≤ 8) (i : Nat) (hlt : i < (B k).length) (x : Int) (hx : (B k).getD i 0 = x) (v : Int) : Calls Try.prog 73 #[.pointer (some ⟨rb, 0, none⟩), .int .i64 k, .int .i64 i, .int .u64 v] w fun e w' => e = .returned (accV 2 k i x v true) ∧ Duo lo hi w' b rb q A (upd B k i v) ∧ Stay lo hi w w' := by
  obtain ⟨m1, m2, h1, h2, hm, ho⟩ := h
  refine (r_store m2 hi w rb q B h2 ho k hk i hlt x hx v).mono ?_
  rintro e w' ⟨he, hI, hS⟩
  exact ⟨he, Duo.right h1 hm (upd_out hk ho) hI hS⟩
end
end Go.Proofs.Ytpjbmbipkmpkhaa.LabR
