/-
  Contracts of package program: permitted, checkAt.
-/
import Derived.Test.YthnhmclnfgkppaaDoorPgB
import Derived.Test.YthnhmclnfgkppaaDoorPgU
import Derived.Test.YthnhmclnfgkppaaDoorPrgC
namespace Go.Proofs.YthnhmclnfgkppaaDoor.PgC
open Go.ChangeShapes Go.WideShapes Go.ChangeAt Go.RowKit
open PlainT IsaE IsaS BlkW IsaA IsaB IsaF PrgS PgS PgB PgT PgU
set_option linter.unusedVariables false
set_option maxHeartbeats 1000000

theorem around_some {A : Option Addr} {m c : Nat} {ps : List I5} {k : Int} {x : Int × Int} (ha : aroundV ps k = some x) (w : World) (hm : m ≤ c) (hmx : c ≤ maxLen) (hR0 : RowI w A m ps) :
    Calls Tryd.prog 49 #[.slice A m c, .int .i64 k] w fun e W' => e = .returned (.tuple #[.agg #[.int .i64 x.1, .int .i64 x.2], .bool true]) ∧ Below w.heap.size w W' := by
  have h := a_around A m c ps k w hm hmx hR0
  rw [ha] at h
  exact h
theorem around_none {A : Option Addr} {m c : Nat} {ps : List I5} {k : Int} (ha : aroundV ps k = none) (w : World) (hm : m ≤ c) (hmx : c ≤ maxLen) (hR0 : RowI w A m ps) :
    Calls Tryd.prog 49 #[.slice A m c, .int .i64 k] w fun e W' => e = .returned (.tuple #[.agg #[.int .i64 0, .int .i64 0], .bool false]) ∧ Below w.heap.size w W' := by
  have h := a_around A m c ps k w hm hmx hR0
  rw [ha] at h
  exact h
theorem around_b {A : Option Addr} {m c : Nat} {ps : List I5} {k : Int} {o : Bool} (ha : (aroundV ps k).isSome = o) (w : World) (hm : m ≤ c) (hmx : c ≤ maxLen) (hR0 : RowI w A m ps) :
    Calls Tryd.prog 49 #[.slice A m c, .int .i64 k] w fun e W' => ∃ u v : Int, e = .returned (.tuple #[.agg #[.int .i64 u, .int .i64 v], .bool o]) ∧ Below w.heap.size w W' := by
  cases h : aroundV ps k with
  | some x =>
    rw [h] at ha
    subst ha
    exact (around_some h w hm hmx hR0).mono fun e w' h => ⟨_, _, h⟩
  | none =>
    rw [h] at ha
    subst ha
    exact (around_none h w hm hmx hR0).mono fun e w' h => ⟨_, _, h⟩
set_option maxRecDepth 100000 in
theorem a_permitted {A : Option Addr} {m c : Nat} {ps : List I5} {k t : Int} {v : Bool} (hv : permV ps k t = v) (w : World) (hm : m ≤ c) (hmx : c ≤ maxLen) (hR : RowI w A m ps) :
    Calls Tryd.prog 52 #[.slice A m c, .int .i64 k, .int .i64 t] w fun e W' => e = .returned (.bool v) ∧ Below w.heap.size w W' := by
  have hmx2 := hmx
  unfold maxLen at hmx2
  have hl := hR.1
  unfold permV at hv
  rw [hl] at hv
  cases h : aroundV ps k with
  | some x =>
    rw [h] at hv
    simp only at hv
    subst hv
    clear hl
    go_enter Tryd.func52, Tryd.ntmps52
    go_wp2_with (go_at_call 49; (with_reducible refine (around_some h _ hm hmx hR).mono ?_); rintro e w1 ⟨rfl, hb1⟩; have HB1 := Lib.hid hb1; clear hb1)
    go_ret
    exact ⟨rfl, HB1.out.alloc HB1.out.size _⟩
  | none =>
    rw [h] at hv
    simp only at hv
    have HR := Lib.hid hR
    have HL := Lib.hid hl
    clear hl
    obtain ⟨o, ho⟩ : ∃ o, (aroundV ps t).isSome = o := ⟨_, rfl⟩
    have hv2 : (decide (t ≤ m) && !o) = v := by rw [← hv, ← ho]; cases aroundV ps t <;> rfl
    clear hv
    by_cases ht : t ≤ m
    · rw [decide_eq_true ht, Bool.true_and] at hv2
      subst hv2
      go_enter Tryd.func52, Tryd.ntmps52
      go_wp2_with (first
        | (go_at_call 49; (with_reducible refine (around_none h _ hm hmx HR.out).mono ?_); rintro e w1 ⟨rfl, hb1⟩; have HB1 := Lib.hid (hb1.alloc hb1.size (.cells #[.int .i64 0, .int .i64 0] 65)); clear hb1)
        | (go_at_call 49; (with_reducible refine (around_b ho _ hm hmx (HR.out.below HB1.out)).mono ?_); rintro e w2 ⟨u, y, rfl, hb2⟩; have HB2 := Lib.hid (HB1.out.trans (hb2.mono HB1.out.size)); clear hb2))
      go_ret
      exact ⟨rfl, HB2.out.alloc HB2.out.size _⟩
    · rw [decide_eq_false ht, Bool.false_and] at hv2
      subst hv2
      go_enter Tryd.func52, Tryd.ntmps52
      go_wp2_with (first
        | (go_at_call 49; (with_reducible refine (around_none h _ hm hmx HR.out).mono ?_); rintro e w1 ⟨rfl, hb1⟩; have HB1 := Lib.hid (hb1.alloc hb1.size (.cells #[.int .i64 0, .int .i64 0] 65)); clear hb1)
        | (go_at_call 49; (with_reducible refine (around_b ho _ hm hmx (HR.out.below HB1.out)).mono ?_); rintro e w2 ⟨u, y, rfl, hb2⟩; have HB2 := Lib.hid (HB1.out.trans (hb2.mono HB1.out.size)); clear hb2))
      go_ret
      exact ⟨rfl, HB2.out.alloc HB2.out.size _⟩
end Go.Proofs.YthnhmclnfgkppaaDoor.PgC
