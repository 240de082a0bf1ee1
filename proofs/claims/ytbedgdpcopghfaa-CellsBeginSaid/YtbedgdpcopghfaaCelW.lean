/-
  What the statements' walks share: an argument's row of words stays.
-/
import Derived.Test.YtbedgdpcopghfaaCelB
import Derived.Test.YtbedgdpcopghfaaFrame
namespace Go.Proofs.Ytbedgdpcopghfaa.CelW
open Go.ChangeShapes Go.WideShapes Go.ChangeAt Go.RowKit
open PlainT BlkW LawFrame
set_option linter.unusedVariables false

theorem wf_u64 {x : Int} (h : (Lit.int .u64 x).wf = true) : 0 ≤ x ∧ x ≤ 18446744073709551615 := by
  have h2 : IntKind.u64.min ≤ x ∧ x ≤ IntKind.u64.max := by simpa [Lit.wf] using h
  rw [show IntKind.u64.min = 0 by decide, show IntKind.u64.max = 18446744073709551615 by decide] at h2
  exact h2
theorem ints_at {w : World} {A : Option Addr} {n : Nat} {z : List Int} (h : Ints .u64 w A n z) {k : Nat} (hk : k < n) : ∃ b off x, A = some ⟨b, off, none⟩ ∧ b < w.heap.size ∧ w.cell? ⟨b, off + k, none⟩ = some (.int .u64 x) ∧ 0 ≤ x ∧ x ≤ 18446744073709551615 := by
  obtain ⟨h1, h2, h3⟩ := h
  obtain ⟨b, off, rfl, hb, hc⟩ := h3 (by omega)
  refine ⟨b, off, _, rfl, hb, hc k hk, ?_⟩
  have hm : z.getD k 0 ∈ z := by
    rw [List.getD_eq_getElem?_getD, List.getElem?_eq_getElem (by omega)]
    exact List.getElem_mem _
  exact wf_u64 (h2 _ hm)
theorem ints_keep {w w' : World} {A : Option Addr} {n : Nat} {z : List Int} (h : Ints .u64 w A n z) (hb : Below w.heap.size w w') : Ints .u64 w' A n z := by
  obtain ⟨h1, h2, h3⟩ := h
  refine ⟨h1, h2, fun h0 => ?_⟩
  obtain ⟨b, off, rfl, hlt, hc⟩ := h3 h0
  exact ⟨b, off, rfl, Nat.lt_of_lt_of_le hlt hb.size, fun i hi => (World.cell?_of_block (hb.block b hlt)).trans (hc i hi)⟩
/-- The argument's row, far from the cells. -/
structure ZZ (w0 : World) (lo : Nat) (A : Option Addr) (n : Nat) (z : List Int) (w : World) : Prop where
  z : Ints .u64 w0 A n z
  old : Below w0.heap.size w0 w
  lo : w0.heap.size ≤ lo
theorem zz_at {w0 w : World} {lo : Nat} {A : Option Addr} {n : Nat} {z : List Int} (h : ZZ w0 lo A n z w) {k : Nat} (hk : k < n) : ∃ b off x, A = some ⟨b, off, none⟩ ∧ b < w0.heap.size ∧ w.cell? ⟨b, off + k, none⟩ = some (.int .u64 x) ∧ 0 ≤ x ∧ x ≤ 18446744073709551615 := by
  obtain ⟨b, off, x, hA, hb, hc, h0, h1⟩ := ints_at h.z hk
  exact ⟨b, off, x, hA, hb, (World.cell?_of_block (h.old.block b hb)).trans hc, h0, h1⟩
end Go.Proofs.Ytbedgdpcopghfaa.CelW
