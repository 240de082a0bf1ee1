/-
  Contract of the statements' own function: start.
-/
import Derived.Test.YtphnadchdhblpaaGreatCelA
import Derived.Test.YtphnadchdhblpaaGreatCelG
import Derived.Test.YtphnadchdhblpaaGreatLayP
import Derived.OwnWalk
namespace Go.Proofs.YtphnadchdhblpaaGreat.CelB
open Go.ChangeShapes Go.WideShapes Go.ChangeAt Go.RowKit
open PlainT BlkW LayS LayA LayH LayK LayP CelS CelM CelP CelV CelN CelO CelF CelG
set_option linter.unusedVariables false
set_option maxHeartbeats 1000000

/-- The first words. -/
def gen (i : Nat) : List Int := (List.range i).map fun j : Nat => 10 * (j : Int) + 1
theorem gen_len (i : Nat) : (gen i).length = i := by simp [gen]
theorem gen_step (i : Nat) : gen (i + 1) = gen i ++ [10 * (i : Int) + 1] := by simp [gen, List.range_succ]
theorem own_src {w : World} {B : Nat} {v : Value} {xs : List Int} (h : OwnU w B v xs) (h0 : 0 < xs.length) : Src w v xs ∧ ∀ g, v.ownBlock = some g → g < w.heap.size := by
  obtain ⟨g, cap, cur, rfl, hB, hh, hlt, hc⟩ := own_cells h h0
  refine ⟨⟨g, 0, cap, rfl, fun j x hj => ?_⟩, fun g' hg' => by simp [Value.ownBlock] at hg'; omega⟩
  have hjl : j < xs.length := (List.getElem?_eq_some_iff.1 hj).1
  have := hc j (by omega)
  rw [Nat.zero_add, this]
  simp [us, hj]
/-- What start returns. -/
structure Start (w0 : World) (q : Cfg) (n no nt : Nat) (lo1 hi1 lo2 hi2 b rb : Nat) (w : World) : Prop where
  made : Made q
  blk : blkV q = n
  orc : q.o = no
  m : Hid (q.w = ((gen q.w.toNat).length : Nat))
  t1 : 1 ≤ nt
  t2 : nt ≤ 4
  mem : Is lo1 hi1 w b (A0 q n no nt (gen q.w.toNat))
  ref : RefIs lo2 hi2 w rb q (A0 q n no nt (gen q.w.toNat))
  lo : w0.heap.size ≤ lo1
  mid : hi1 ≤ lo2
  old : Below w0.heap.size w0 w
end Go.Proofs.YtphnadchdhblpaaGreat.CelB
