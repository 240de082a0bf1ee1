/-
  Rows of the call's own: a store into a row; a row of instructions that is read.
-/
import Derived.Test.YtcplhochgngedaaGreatDoorOwn
import Derived.Test.YtcplhochgngedaaGreatDoorPrgG
namespace Go.Proofs.YtcplhochgngedaaGreatDoor.OwnS
open Go.ChangeShapes Go.WideShapes Go.ChangeAt Go.RowKit
open PlainT BlkW PrgS PrgG Own
set_option linter.unusedVariables false
set_option maxHeartbeats 1000000

theorem own_set {w : World} {base size n g cap j : Nat} {e : TypeId} {xs : List Value} (h : w.ownsRow base e size (.slice (some ⟨g, 0, none⟩) n cap) n xs) (u : Value) (hj : j < n * size) : (w.setCell ⟨g, j, none⟩ u).ownsRow base e size (.slice (some ⟨g, 0, none⟩) n cap) n (xs.set j u) := by
  refine ⟨by rw [List.length_set]; exact h.1, ?_⟩
  rcases h.2 with ⟨hn, _⟩ | ⟨g', cap', cur, hv, h1, h2, h3, h4, h5, h6⟩
  · cases hv : hn
  · injection hv with e1 e2 e3
    injection e1 with e1
    injection e1 with e1
    subst e1 e3
    refine .inr ⟨g, cap, cur.setIfInBounds j u, rfl, h1, Mem.set_ (show Mem w g e cur from h2) j u, h3, h4, by rw [Array.size_setIfInBounds]; exact h5, ?_⟩
    rw [← h6, Array.toList_setIfInBounds, List.take_set]
theorem cellsI_cons (a : I5) (r : List I5) : cellsI (a :: r) = [.int .i64 a.op, .int .i64 a.a, .int .i64 a.b, .int .i64 a.c, .int .i64 a.i] ++ cellsI r := rfl
theorem cellsI_get : ∀ (ps : List I5) (k : Nat) (x : I5), ps[k]? = some x → (cellsI ps)[k * 5]? = some (.int .i64 x.op) ∧ (cellsI ps)[k * 5 + 1]? = some (.int .i64 x.a) ∧ (cellsI ps)[k * 5 + 2]? = some (.int .i64 x.b) ∧ (cellsI ps)[k * 5 + 3]? = some (.int .i64 x.c) ∧ (cellsI ps)[k * 5 + 4]? = some (.int .i64 x.i)
  | [], k, x, h => by simp at h
  | a :: r, 0, x, h => by
    simp at h
    subst h
    rw [cellsI_cons]
    exact ⟨rfl, rfl, rfl, rfl, rfl⟩
  | a :: r, k + 1, x, h => by
    have ih := cellsI_get r k x (by simpa using h)
    have key : ∀ i, (cellsI (a :: r))[(k + 1) * 5 + i]? = (cellsI r)[k * 5 + i]? := fun i => by
      rw [cellsI_cons, List.getElem?_append_right (by simp; omega)]
      congr 1
      simp
      omega
    have k0 := key 0
    simp only [Nat.add_zero] at k0
    rw [k0, key 1, key 2, key 3, key 4]
    exact ih
theorem cellsI_set : ∀ (ps : List I5) (k : Nat) (x : I5) (v : Int), ps[k]? = some x → (cellsI ps).set (k * 5 + 4) (.int .i64 v) = cellsI (ps.set k { x with i := v })
  | [], k, x, v, h => by simp at h
  | a :: r, 0, x, v, h => by
    simp at h
    subst h
    rw [List.set_cons_zero, cellsI_cons, cellsI_cons]
    rfl
  | a :: r, k + 1, x, v, h => by
    have ih := cellsI_set r k x v (by simpa using h)
    rw [List.set_cons_succ, cellsI_cons, cellsI_cons, ← ih, List.set_append_right _ _ (by simp; omega)]
    congr 2
    simp
    omega
theorem rowI_of_own {w : World} {B c : Nat} {A : Option Addr} {ps : List I5} (h : w.ownsRow B 40 5 (.slice A ps.length c) ps.length (cellsI ps)) : RowI w A ps.length ps := by
  refine ⟨rfl, fun hn => ?_⟩
  obtain ⟨g, cap, cur, hv, _, hg, hlt, hc⟩ := own_cells h hn
  injection hv with e1 e2 e3
  refine ⟨g, 0, e1, hlt, fun k hk => ?_⟩
  obtain ⟨c0, c1, c2, c3, c4⟩ := cellsI_get ps k ps[k] (List.getElem?_eq_getElem hk)
  rw [Nat.zero_add]
  exact ⟨(hc _ (by omega)).trans c0, (hc _ (by omega)).trans c1, (hc _ (by omega)).trans c2, (hc _ (by omega)).trans c3, (hc _ (by omega)).trans c4⟩
end Go.Proofs.YtcplhochgngedaaGreatDoor.OwnS
