/-
  The reference's rows with a word turned (for set).
-/
import Derived.Test.YtcbhpoajpingcaaCelH
import Derived.Laws.OwnMore
namespace Go.Proofs.Ytcbhpoajpingcaa.CelC
open Go.ChangeShapes Go.WideShapes Go.ChangeAt Go.RowKit
open PlainT BlkW LayS LayA CelS CelM CelV CelN CelF CelZ
set_option linter.unusedVariables false
set_option maxHeartbeats 1000000
/-- The cell's kind that row k of the reference holds. -/
def cellOf (k : Nat) : Int := if k = 0 then 1 else if k = 1 then 2 else if k = 2 then 6 else if k = 3 then 7 else 8
theorem own_set {w : World} {base g n cap : Nat} {xs : List Int} (h : OwnU w base (.slice (some ⟨g, 0, none⟩) n cap) xs) (i : Nat) (x : Int) : OwnU (w.setCell ⟨g, i, none⟩ (.int .u64 x)) base (.slice (some ⟨g, 0, none⟩) n cap) (xs.set i x) := by
  obtain ⟨A, c, hv, _⟩ := own_slice h
  injection hv with _ hn _
  subst hn
  have := (World.ownsRow.stored h i (.int .u64 x)).1
  unfold OwnU
  rw [List.length_set]
  have hu : us (xs.set i x) = (us xs).set i (.int .u64 x) := by unfold us; rw [List.map_set]
  rw [hu]
  exact this
theorem ref_set {lo hi : Nat} {w : World} {rb : Nat} {q : Cfg} {A : Int → List Int} {V : Nat → Value} {X : Nat → List Int} {c t s : Int} (h : Ref lo hi w rb q A V X c t s) {k : Nat} (hk : k < 5) {g n cap : Nat} (hv : V k = .slice (some ⟨g, 0, none⟩) n cap) (i : Nat) (x : Int) :
    Ref lo hi (w.setCell ⟨g, i, none⟩ (.int .u64 x)) rb q (upd A (cellOf k) i x) V (up X k ((X k).set i x)) c t s := by
  have hog : (V k).ownBlock = some g := by rw [hv]; rfl
  have hne : rb ≠ g := fun e => h.r.row_ne hk (by rw [hog, e])
  refine ⟨⟨h.r.bx.far hne _, fun j hj => ?_, h.r.ap, h.r.low⟩, h.bIn, h.rIn, by simpa [World.setCell] using h.top, ?_, ?_, ?_, ?_, ?_, ?_, ?_, ?_⟩
  · by_cases hjk : j = k
    · subst hjk
      rw [up_self]
      have := h.r.own j hj
      rw [hv] at this ⊢
      exact own_set this i x
    · rw [up_ne _ _ hjk]
      exact own_far (h.r.own j hj) (fun e => h.r.ap j k hj hk hjk g e hog) _
  all_goals
    have hc : k = 0 ∨ k = 1 ∨ k = 2 ∨ k = 3 ∨ k = 4 := by omega
    rcases hc with rfl | rfl | rfl | rfl | rfl <;> simp [upd, cellOf, up, h.a1, h.a2, h.a3, h.a4, h.a5, h.a6, h.a7, h.a8]
end Go.Proofs.Ytcbhpoajpingcaa.CelC
