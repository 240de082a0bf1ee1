/-
  Programs: rows of instructions; transactions (plain mathematics).
-/
import Derived.Test.YtcplhochgngedaaGreatDoorIsaBU
import Derived.Test.YtcplhochgngedaaGreatDoorRefB
namespace Go.Proofs.YtcplhochgngedaaGreatDoor.PrgS
open Go.ChangeShapes Go.WideShapes Go.ChangeAt Go.RowKit
open PlainT IsaE IsaS BlkW IsaA IsaB IsaF
set_option linter.unusedVariables false

structure I5 where
  op : Int
  a : Int
  b : Int
  c : Int
  i : Int
def OkI (x : I5) : Prop := InInt x.op ∧ InInt x.a ∧ InInt x.b ∧ InInt x.c ∧ InInt x.i
/-- A row that holds instructions. -/
def RowI (w : World) (A : Option Addr) (n : Nat) (ps : List I5) : Prop :=
  ps.length = n ∧ (0 < n → ∃ b off : Nat, A = some ⟨b, off, none⟩ ∧ b < w.heap.size ∧ ∀ k (h : k < ps.length),
    w.cell? ⟨b, off + k * 5, none⟩ = some (.int .i64 ps[k].op) ∧ w.cell? ⟨b, off + k * 5 + 1, none⟩ = some (.int .i64 ps[k].a) ∧ w.cell? ⟨b, off + k * 5 + 2, none⟩ = some (.int .i64 ps[k].b) ∧ w.cell? ⟨b, off + k * 5 + 3, none⟩ = some (.int .i64 ps[k].c) ∧ w.cell? ⟨b, off + k * 5 + 4, none⟩ = some (.int .i64 ps[k].i))
theorem RowI.old {w w' : World} {A : Option Addr} {n : Nat} {ps : List I5} (h : RowI w A n ps) (k : Old w w') : RowI w' A n ps := by
  refine ⟨h.1, fun hn => ?_⟩
  obtain ⟨b, off, rfl, hb, hc⟩ := h.2 hn
  refine ⟨b, off, rfl, Nat.lt_of_lt_of_le hb k.1, fun i hi => ?_⟩
  have e : ∀ o, w'.cell? ⟨b, o, none⟩ = w.cell? ⟨b, o, none⟩ := fun o => World.cell?_of_block (w := w) (k.2 b hb)
  simp only [e]
  exact hc i hi
theorem RowI.below {w w' : World} {A : Option Addr} {n : Nat} {ps : List I5} (h : RowI w A n ps) (k : Below w.heap.size w w') : RowI w' A n ps := h.old (.of_below k)
theorem RowI.at {w : World} {A : Option Addr} {n k : Nat} {ps : List I5} (h : RowI w A n ps) (hk : k < n) : ∃ (b off : Nat) (x : I5), A = some ⟨b, off, none⟩ ∧ b < w.heap.size ∧ ps[k]? = some x ∧
    w.cell? ⟨b, off + k * 5, none⟩ = some (.int .i64 x.op) ∧ w.cell? ⟨b, off + k * 5 + 1, none⟩ = some (.int .i64 x.a) ∧ w.cell? ⟨b, off + k * 5 + 2, none⟩ = some (.int .i64 x.b) ∧ w.cell? ⟨b, off + k * 5 + 3, none⟩ = some (.int .i64 x.c) ∧ w.cell? ⟨b, off + k * 5 + 4, none⟩ = some (.int .i64 x.i) := by
  obtain ⟨b, off, rfl, hb, hc⟩ := h.2 (by omega)
  have hi : k < ps.length := by rw [h.1]; exact hk
  exact ⟨b, off, ps[k], rfl, hb, List.getElem?_eq_getElem hi, hc k hi⟩

/-! ### The transaction of a position. -/
def spanGo (t : Int) (N : Nat) : List I5 → Nat → Int → Int × Int
  | [], _, b => if 0 ≤ b ∧ b ≤ t ∧ t < N then (b, N) else (-1, -1)
  | x :: r, k, b =>
    if b < 0 ∧ x.op = 7 then spanGo t N r (k + 1) k
    else if 0 ≤ b ∧ x.op = 8 then (if b ≤ t ∧ t ≤ k then (b, k) else spanGo t N r (k + 1) (-1))
    else spanGo t N r (k + 1) b
def spanV (ps : List I5) (t : Int) : Int × Int := spanGo t ps.length ps 0 (-1)
def reachesV (ps : List I5) (k t : Int) : Bool :=
  if (ps.length : Int) < t then false else if 0 ≤ (spanV ps k).1 then decide (t ≤ (spanV ps k).2) else decide ((spanV ps t).1 < 0) || decide ((spanV ps t).1 = t)
/-! ### Check. -/
def chkI (x : I5) : Int := chk x.op x.a x.b x.c x.i
def plI (x : I5) : Int := placeV x.op x.a x.b x.c x.i
def skB (x : I5) : Bool := skipsB x.op x.a x.b x.c x.i
def skV (x : I5) : Int := skipsV x.op x.a x.b x.c x.i
def nestB (x : I5) (o : Int) : Bool := (decide (x.op = 7) && decide (0 ≤ o)) || (decide (x.op = 8) && decide (o < 0))
def placeB (p o : Int) : Bool := (decide (p = 1) && decide (o < 0)) || (decide (p = 2) && decide (0 ≤ o))
def errAt (ps : List I5) (k : Nat) (x : I5) (o : Int) : Int :=
  if chkI x ≠ 0 then chkI x else if nestB x o = true then 40 else if placeB (plI x) o = true then 41
  else if skB x = true ∧ reachesV ps k (k + 1 + skV x) = false then 42 else 0
def nextO (k : Nat) (x : I5) (o : Int) : Int := if x.op = 7 then k else if x.op = 8 then -1 else o
def chkGo (ps : List I5) : List I5 → Nat → Int → Int × Int
  | [], _, o => if 0 ≤ o then (o, 43) else (0, 0)
  | x :: r, k, o => if errAt ps k x o ≠ 0 then (k, errAt ps k x o) else chkGo ps r (k + 1) (nextO k x o)
def refChk (ps : List I5) : Int × Int := if 64 < ps.length then (0, 3) else chkGo ps ps 0 (-1)
theorem spanGo_lo (t : Int) (N : Nat) (ht : 0 ≤ t) : ∀ (r : List I5) (k : Nat) (b : Int), -1 ≤ b → -1 ≤ (spanGo t N r k b).1 := by
  intro r
  induction r with
  | nil => intro k b hb; unfold spanGo; split <;> simp <;> omega
  | cons x r ih =>
    intro k b hb
    unfold spanGo
    split
    · exact ih _ _ (by omega)
    · split
      · split
        · exact hb
        · exact ih _ _ (by omega)
      · exact ih _ _ hb
theorem drop_cons_of {α : Type} {l : List α} {k : Nat} {x : α} (h : l[k]? = some x) : l.drop k = x :: l.drop (k + 1) := by
  obtain ⟨hk, e⟩ := List.getElem?_eq_some_iff.1 h
  rw [← e]
  exact List.drop_eq_getElem_cons hk
end Go.Proofs.YtcplhochgngedaaGreatDoor.PrgS
