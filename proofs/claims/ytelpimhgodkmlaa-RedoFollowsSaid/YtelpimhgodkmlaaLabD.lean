/-
  Texts on no function, cut for a seat without cells: what changes but some blocks; rows of the call's own.
-/
import Derived.Test.YtelpimhgodkmlaaRows
import Derived.Test.YtelpimhgodkmlaaBlk
import Derived.ProofKit
import Derived.OpenShut
import Derived.WalkLawsBesides
import Derived.MapKept
import Derived.Laws.MakeOwn
import Derived.Lib.Hide
import Derived.Deep.QuietTactic
import Derived.BigQuiet
import Derived.Deep.Draws
import Derived.Deep.DeepCutAuto
import Derived.Maps.AppendAt
import Derived.Laws.OwnMore
import Derived.Laws.CopyRow
import Derived.Deep.RegionLaw
import Derived.Deep.RegionHeld3
import Derived.Deep.Cut
namespace Go.Proofs.Ytelpimhgodkmlaa.CelS
abbrev TI : TypeId := 3
end Go.Proofs.Ytelpimhgodkmlaa.CelS
namespace Go.Proofs.Ytelpimhgodkmlaa.CelM
end Go.Proofs.Ytelpimhgodkmlaa.CelM
namespace Go.Proofs.Ytelpimhgodkmlaa.CelP
end Go.Proofs.Ytelpimhgodkmlaa.CelP
namespace Go.Proofs.Ytelpimhgodkmlaa.CelF
end Go.Proofs.Ytelpimhgodkmlaa.CelF
namespace Go.Proofs.Ytelpimhgodkmlaa.LayS
end Go.Proofs.Ytelpimhgodkmlaa.LayS
namespace Go.Proofs.Ytelpimhgodkmlaa.CelV
open Go.ChangeShapes Go.WideShapes Go.ChangeAt Go.RowKit
open PlainT BlkW CelS CelM
set_option linter.unusedVariables false
set_option maxHeartbeats 1000000
theorem wpList_append_run {P : Program} {ops : Array Oper} {rest : List Oper} {o : Oper} {a : Act} {w : World} {Q : Exit → Act → World → Prop} (hgd : o.guard = none) (s x : Operand) (t : TypeId)
    (ho : o.op = .call { callee := .builtin .append, args := #[s, x], argTypes := #[t, t] }) {vs vx v : Value} {w' : World} (hrun : (Builtin.append_ #[t, t] o.type #[vs, vx]).run P w = .ok v w') (hs : a.eval s = vs) (hx : a.eval x = vx)
    (h : wpList P ops Q rest (a.put o.dst v) w') : wpList P ops Q (o :: rest) a w := by
  refine wpList_plain hgd fun _ hK => ?_
  unfold Oper.wp execOp
  simp only [ho, resolve, invoke, builtin, Sem.run_bind, Sem.run_pure, Result.andThen_ok, List.map_toArray, List.map_cons, List.map_nil, hs, hx, hrun]
  exact hK _ _ h

section
variable {w w' : World} {base size n : Nat} {e : TypeId} {v : Value} {xs : List Value}
theorem own_of_block (h : w.ownsRow base e size v n xs) (hb : ∀ g, v.ownBlock = some g → w'.heap[g]? = w.heap[g]?) : w'.ownsRow base e size v n xs := by
  refine ⟨h.1, ?_⟩
  rcases h.2 with hn | ⟨g, cap, cur, rfl, h1, h2, h3⟩
  · exact .inl hn
  · exact .inr ⟨g, cap, cur, rfl, h1, (hb g rfl).trans h2, h3⟩
theorem own_old (h : w.ownsRow base e size v n xs) (o : Old w w') : w'.ownsRow base e size v n xs := own_of_block h fun g hg => o.2 g (h.lt g hg).2
theorem own_drewN (h : w.ownsRow base e size v n xs) (k : Nat) : (w.drewN k).ownsRow base e size v n xs := h
theorem own_far (h : w.ownsRow base e size v n xs) {a : Addr} (ha : v.ownBlock ≠ some a.block) (u : Value) : (w.setCell a u).ownsRow base e size v n xs :=
  own_of_block h fun g hg => Below.heap_setCell w a u g (fun e0 => ha (by rw [hg, e0]))
theorem own_slice (h : w.ownsRow base e size v n xs) : ∃ A c, v = .slice A n c ∧ n ≤ c ∧ c ≤ maxLen := by
  rcases h.2 with ⟨rfl, rfl⟩ | ⟨g, cap, cur, rfl, _, _, h3, h4, _⟩
  · exact ⟨none, 0, rfl, Nat.le_refl _, Nat.zero_le _⟩
  · exact ⟨_, _, rfl, h3, h4⟩
theorem own_cellAt {g cap : Nat} (h : w.ownsRow base e size (.slice (some ⟨g, 0, none⟩) n cap) n xs) (j : Nat) (hj : j < n * size) : w.cell? ⟨g, j, none⟩ = xs[j]? := by
  have hx : xs[j]? = some (xs[j]'(by rw [h.1]; exact hj)) := List.getElem?_eq_getElem _
  have := h.cells (g := g) rfl j _ hx
  have hadd : (⟨g, 0, none⟩ : Addr).add j = ⟨g, j, none⟩ := by unfold Addr.add; split <;> simp_all
  rw [hadd] at this
  rw [this, hx]
theorem own_cells (h : w.ownsRow base e size v n xs) (hn : 0 < n) : ∃ g cap cur, v = .slice (some ⟨g, 0, none⟩) n cap ∧ base ≤ g ∧ w.heap[g]? = some (.cells cur e (0, 0)) ∧ g < w.heap.size ∧ ∀ j, j < n * size → w.cell? ⟨g, j, none⟩ = xs[j]? := by
  rcases h.2 with ⟨rfl, rfl⟩ | ⟨g, cap, cur, rfl, h1, h2, h3⟩
  · omega
  · exact ⟨g, cap, cur, rfl, h1, h2, lt_of_some h2, fun j hj => own_cellAt h j hj⟩
theorem own_ne {t : TypeId} {cs : Array Value} {g : Nat} {fr : Nat × Nat} (h : w.ownsRow base e size v n xs) (hg : w.heap[g]? = some (.cells cs t fr)) (hne : e ≠ t) : v.ownBlock ≠ some g := by
  rcases h.2 with ⟨rfl, _⟩ | ⟨g', cap, cur, rfl, _, hh, _⟩
  · simp [Value.ownBlock]
  · intro he
    have : g' = g := by simpa [Value.ownBlock] using he
    subst this
    rw [hh] at hg
    injection hg with hg
    injection hg with _ ht
    exact hne ht
theorem own_ne_mem {t : TypeId} {cs : Array Value} {g : Nat} (h : w.ownsRow base e size v n xs) (hg : Mem w g t cs) (hne : e ≠ t) : v.ownBlock ≠ some g := own_ne h (fr := (0, 0)) hg hne
theorem own_row (h : w.ownsRow base e size v n xs) : ∀ k, v.ownBlock = some k → base ≤ k ∧ ∃ (cs : Array Value) (t : TypeId) (fr : Nat × Nat), w.heap[k]? = some (.cells cs t fr) ∧ t = e := by
  intro k hk
  rcases h.2 with ⟨rfl, _⟩ | ⟨g, cap, cur, rfl, h1, h2, _⟩
  · simp [Value.ownBlock] at hk
  · simp [Value.ownBlock] at hk
    subst hk
    exact ⟨h1, cur, e, (0, 0), h2, rfl⟩
theorem own_mono {base' : Nat} (h : w.ownsRow base e size v n xs) (hb : base' ≤ base) : w.ownsRow base' e size v n xs := by
  refine ⟨h.1, ?_⟩
  rcases h.2 with hn | ⟨g, cap, cur, rfl, h1, h2⟩
  · exact .inl hn
  · exact .inr ⟨g, cap, cur, rfl, Nat.le_trans hb h1, h2⟩
end
theorem cell_lit {W : World} {T : TypeId} {l : List Value} : ∀ (j : Nat) u, l[j]? = some u → (W.alloc (.cells l.toArray T)).cell? ((⟨W.heap.size, 0, none⟩ : Addr).add j) = some u := by
  intro j u hu
  have e : (⟨W.heap.size, 0, none⟩ : Addr).add j = ⟨W.heap.size, j, none⟩ := by
    unfold Addr.add
    split
    · rename_i h; rw [h]
    · simp
  rw [e, (Mem.new W T l.toArray).cell j]
  simpa using hu

theorem own_kept {w w' : World} {base size n : Nat} {e : TypeId} {v : Value} {xs : List Value} {row : Option Nat} (h : w.ownsRow base e size v n xs) (hg : w.grownBy w' row) (hr : ∀ k, row = some k → ∃ (cs : Array Value) (t : TypeId) (fr : Nat × Nat), w.heap[k]? = some (.cells cs t fr) ∧ e ≠ t) : w'.ownsRow base e size v n xs :=
  own_of_block h fun g hgv => hg.block g (h.lt g hgv).2 (fun e0 => by
    obtain ⟨cs, t, fr, hh, hne⟩ := hr g e0.symm
    exact own_ne h hh hne hgv)

/-- append, run in a known way, as one step of a region that draws. -/
theorem step_append_run {P : Program} {ops : Array Oper} {o : Oper} {a : Act} {w : World} {K : Act → World → Prop} {Q : Exit → Act → World → Prop} {E : Prop}
    (hg : o.guard = none) (s x : Operand) (t : TypeId) (hop : o.op = Op.call { callee := Callee.builtin Builtin.append, args := #[s, x], argTypes := #[t, t] })
    (vs vx v : Value) (w' : World) (hs : a.eval s = vs) (hx : a.eval x = vx) (hrun : (Builtin.append_ #[t, t] o.type #[vs, vx]).run P w = .ok v w')
    (hK : K (a.put o.dst v) w') : if Region.wanted o (yielded ops a.tmps) = true then Oper.wp P o a w K Q else E := by
  have hw : Region.wanted o (yielded ops a.tmps) = true := by simp [Region.wanted, hg]
  rw [if_pos hw]
  unfold Oper.wp
  simp [execOp, hop, resolve, invoke, builtin, hs, hx, hrun, Result.andThen]
  exact hK
end Go.Proofs.Ytelpimhgodkmlaa.CelV
namespace Go.Proofs.Ytelpimhgodkmlaa.CelN
theorem add_off (g o i : Nat) : (⟨g, o, none⟩ : Addr).add i = ⟨g, o + i, none⟩ := by
  unfold Addr.add
  split <;> simp_all
end Go.Proofs.Ytelpimhgodkmlaa.CelN
namespace Go.Proofs.Ytelpimhgodkmlaa.LabD
open Go.RowKit
open PlainT BlkW LayS CelS CelM CelV CelN CelF
set_option linter.unusedVariables false
/-- Nothing is turned but the blocks that P names and new ones. -/
structure Fr (P : Nat → Prop) (w w' : World) : Prop where
  os : w'.os = w.os
  tape : w'.tape = w.tape
  output : w'.output = w.output
  size : w.heap.size ≤ w'.heap.size
  block : ∀ g, g < w.heap.size → ¬ P g → w'.heap[g]? = w.heap[g]?
section
variable {P Q : Nat → Prop} {w w' w'' : World} {lo hi : Nat}
theorem Fr.refl (P : Nat → Prop) (w : World) : Fr P w w := ⟨rfl, rfl, rfl, Nat.le_refl _, fun _ _ _ => rfl⟩
theorem Fr.trans (h : Fr P w w') (k : Fr P w' w'') : Fr P w w'' := ⟨k.os.trans h.os, k.tape.trans h.tape, k.output.trans h.output, Nat.le_trans h.size k.size, fun g hg hr => (k.block g (Nat.lt_of_lt_of_le hg h.size) hr).trans (h.block g hg hr)⟩
/-- What the second step turns was new at the first, or named. -/
theorem Fr.then (h : Fr P w w') (k : Fr Q w' w'') (hq : ∀ g, g < w.heap.size → Q g → P g) : Fr P w w'' := ⟨k.os.trans h.os, k.tape.trans h.tape, k.output.trans h.output, Nat.le_trans h.size k.size, fun g hg hr => (k.block g (Nat.lt_of_lt_of_le hg h.size) (fun hx => hr (hq g hg hx))).trans (h.block g hg hr)⟩
theorem Fr.wide (h : Fr P w w') (hq : ∀ g, P g → Q g) : Fr Q w w' := ⟨h.os, h.tape, h.output, h.size, fun g hg hr => h.block g hg (fun hx => hr (hq g hx))⟩
theorem Fr.of_below (h : Below w.heap.size w w') : Fr P w w' := ⟨h.os, h.tape, h.output, h.size, fun g hg _ => h.block g hg⟩
theorem Fr.alloc (h : Fr P w w') (o : Obj) : Fr P w (w'.alloc o) := h.trans (.of_below (below_new w' o))
theorem Fr.drewN (h : Fr P w w') (n : Nat) : Fr P w (w'.drewN n) := ⟨h.os, h.tape, h.output, h.size, h.block⟩
theorem Fr.set_ (h : Fr P w w') (a : Addr) (ha : P a.block ∨ w.heap.size ≤ a.block) (u : Value) : Fr P w (w'.setCell a u) :=
  ⟨h.os, h.tape, h.output, by simpa [World.setCell] using h.size, fun g hg hr => (Below.heap_setCell w' a u g (by
    rintro rfl
    rcases ha with ha | ha
    · exact hr ha
    · omega)).trans (h.block g hg hr)⟩
theorem Fr.below {B : Nat} (h : Fr P w w') (hp : ∀ g, P g → B ≤ g) (hB : B ≤ w.heap.size) : Below B w w' := ⟨h.os, h.tape, h.output, h.size, fun g hg => h.block g (by omega) (fun hx => by have := hp g hx; omega)⟩
theorem Fr.after {B : Nat} {w0 : World} (h : Fr P w w') (hb : Below B w0 w) (hp : ∀ g, P g → B ≤ g) (hB : B ≤ w0.heap.size) : Below B w0 w' := hb.trans (h.below hp (Nat.le_trans hB hb.size))
theorem Mem.of_eq {g : Nat} {t : TypeId} {cs : Array Value} (h : Mem w g t cs) (e : w'.heap[g]? = w.heap[g]?) : Mem w' g t cs := e.trans h
theorem mem_fr {g : Nat} {t : TypeId} {cs : Array Value} (h : Mem w g t cs) (k : Fr P w w') (hp : ¬ P g) : Mem w' g t cs := (k.block g h.lt hp).trans h
end
end Go.Proofs.Ytelpimhgodkmlaa.LabD
