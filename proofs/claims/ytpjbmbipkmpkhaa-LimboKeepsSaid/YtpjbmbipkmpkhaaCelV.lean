/-
  Rows of words of the call's own: what stays; one word more at the end of a row.
-/
import Derived.Test.YtpjbmbipkmpkhaaCelM
import Derived.Maps.AppendAt
import Derived.Laws.OwnMore
import Derived.Deep.RegionLaw
namespace Go.Proofs.Ytpjbmbipkmpkhaa.CelV
open Go.ChangeShapes Go.WideShapes Go.ChangeAt Go.RowKit
open PlainT BlkW CelS CelM
set_option linter.unusedVariables false
set_option maxHeartbeats 1000000

theorem wpList_append_run {P : Program} {ops : Array Oper} {rest : List Oper} {o : Oper} {a : Act} {w : World} {Q : Exit → Act → World → Prop} (hgd : o.guard = none) (s x : Operand) (t : TypeId)
    (ho : o.op = .call { callee := .builtin .append, args := #[s, x], argTypes := #[t, t] }) {vs vx v : Value} {w' : World} (hrun : (Builtin.append_ #[t, t] o.type #[vs, vx]).run P w = .ok v w') (hs : a.eval s = vs) (hx : a.eval x = vx)
    (h : wpList P ops Q rest (a.put o.dst v) w') : wpList P ops Q (o :: rest) a w := by
  refine wpList_plain hgd fun _ hK => ?_
  unfold Oper.wp execOp
  simp only [ho, resolve, invoke, builtin, Sem.run_bind, Sem.run_pure, Result.andThen_ok, List.map_toArray, List.map_cons, List.map_nil, hs, hx, hrun]
  exact hK _ _ h

section
variable {w w' : World} {base size n : Nat} {e : TypeId} {v : Value} {xs : List Value}
theorem own_of_block (h : w.ownsRow base e size v n xs) (hb : ∀ g, v.ownBlock = some g → w'.heap[g]? = w.heap[g]?) : w'.ownsRow base e size v n xs := by
  refine ⟨h.1, ?_⟩
  rcases h.2 with hn | ⟨g, cap, cur, rfl, h1, h2, h3⟩
  · exact .inl hn
  · exact .inr ⟨g, cap, cur, rfl, h1, (hb g rfl).trans h2, h3⟩
theorem own_old (h : w.ownsRow base e size v n xs) (o : Old w w') : w'.ownsRow base e size v n xs := own_of_block h fun g hg => o.2 g (h.lt g hg).2
theorem own_drewN (h : w.ownsRow base e size v n xs) (k : Nat) : (w.drewN k).ownsRow base e size v n xs := h
theorem own_far (h : w.ownsRow base e size v n xs) {a : Addr} (ha : v.ownBlock ≠ some a.block) (u : Value) : (w.setCell a u).ownsRow base e size v n xs :=
  own_of_block h fun g hg => Below.heap_setCell w a u g (fun e0 => ha (by rw [hg, e0]))
theorem own_slice (h : w.ownsRow base e size v n xs) : ∃ A c, v = .slice A n c ∧ n ≤ c ∧ c ≤ maxLen := by
  rcases h.2 with ⟨rfl, rfl⟩ | ⟨g, cap, cur, rfl, _, _, h3, h4, _⟩
  · exact ⟨none, 0, rfl, Nat.le_refl _, Nat.zero_le _⟩
  · exact ⟨_, _, rfl, h3, h4⟩
theorem own_cellAt {g cap : Nat} (h : w.ownsRow base e size (.slice (some ⟨g, 0, none⟩) n cap) n xs) (j : Nat) (hj : j < n * size) : w.cell? ⟨g, j, none⟩ = xs[j]? := by
  have hx : xs[j]? = some (xs[j]'(by rw [h.1]; exact hj)) := List.getElem?_eq_getElem _
  have := h.cells (g := g) rfl j _ hx
  have hadd : (⟨g, 0, none⟩ : Addr).add j = ⟨g, j, none⟩ := by unfold Addr.add; split <;> simp_all
  rw [hadd] at this
  rw [this, hx]
theorem own_cells (h : w.ownsRow base e size v n xs) (hn : 0 < n) : ∃ g cap cur, v = .slice (some ⟨g, 0, none⟩) n cap ∧ base ≤ g ∧ w.heap[g]? = some (.cells cur e (0, 0)) ∧ g < w.heap.size ∧ ∀ j, j < n * size → w.cell? ⟨g, j, none⟩ = xs[j]? := by
  rcases h.2 with ⟨rfl, rfl⟩ | ⟨g, cap, cur, rfl, h1, h2, h3⟩
  · omega
  · exact ⟨g, cap, cur, rfl, h1, h2, lt_of_some h2, fun j hj => own_cellAt h j hj⟩
theorem own_ne {t : TypeId} {cs : Array Value} {g : Nat} {fr : Nat × Nat} (h : w.ownsRow base e size v n xs) (hg : w.heap[g]? = some (.cells cs t fr)) (hne : e ≠ t) : v.ownBlock ≠ some g := by
  rcases h.2 with ⟨rfl, _⟩ | ⟨g', cap, cur, rfl, _, hh, _⟩
  · simp [Value.ownBlock]
  · intro he
    have : g' = g := by simpa [Value.ownBlock] using he
    subst this
    rw [hh] at hg
    injection hg with hg
    injection hg with _ ht
    exact hne ht
theorem own_ne_mem {t : TypeId} {cs : Array Value} {g : Nat} (h : w.ownsRow base e size v n xs) (hg : Mem w g t cs) (hne : e ≠ t) : v.ownBlock ≠ some g := own_ne h (fr := (0, 0)) hg hne
theorem own_row (h : w.ownsRow base e size v n xs) : ∀ k, v.ownBlock = some k → base ≤ k ∧ ∃ (cs : Array Value) (t : TypeId) (fr : Nat × Nat), w.heap[k]? = some (.cells cs t fr) ∧ t = e := by
  intro k hk
  rcases h.2 with ⟨rfl, _⟩ | ⟨g, cap, cur, rfl, h1, h2, _⟩
  · simp [Value.ownBlock] at hk
  · simp [Value.ownBlock] at hk
    subst hk
    exact ⟨h1, cur, e, (0, 0), h2, rfl⟩
theorem own_mono {base' : Nat} (h : w.ownsRow base e size v n xs) (hb : base' ≤ base) : w.ownsRow base' e size v n xs := by
  refine ⟨h.1, ?_⟩
  rcases h.2 with hn | ⟨g, cap, cur, rfl, h1, h2⟩
  · exact .inl hn
  · exact .inr ⟨g, cap, cur, rfl, Nat.le_trans hb h1, h2⟩
end
theorem cell_lit {W : World} {T : TypeId} {l : List Value} : ∀ (j : Nat) u, l[j]? = some u → (W.alloc (.cells l.toArray T)).cell? ((⟨W.heap.size, 0, none⟩ : Addr).add j) = some u := by
  intro j u hu
  have e : (⟨W.heap.size, 0, none⟩ : Addr).add j = ⟨W.heap.size, j, none⟩ := by
    unfold Addr.add
    split
    · rename_i h; rw [h]
    · simp
  rw [e, (Mem.new W T l.toArray).cell j]
  simpa using hu

theorem own_kept {w w' : World} {base size n : Nat} {e : TypeId} {v : Value} {xs : List Value} {row : Option Nat} (h : w.ownsRow base e size v n xs) (hg : w.grownBy w' row) (hr : ∀ k, row = some k → ∃ (cs : Array Value) (t : TypeId) (fr : Nat × Nat), w.heap[k]? = some (.cells cs t fr) ∧ e ≠ t) : w'.ownsRow base e size v n xs :=
  own_of_block h fun g hgv => hg.block g (h.lt g hgv).2 (fun e0 => by
    obtain ⟨cs, t, fr, hh, hne⟩ := hr g e0.symm
    exact own_ne h hh hne hgv)

theorem info_u : (Try.prog.info? TU).map (fun i => (i.zero, i.size, i.bytes)) = some (some (.int .u64 0), 1, 8) := by kernel_rfl
theorem info_parts {t : TypeId} {z : Value} {size bytes : Nat} (h : (Try.prog.info? t).map (fun i => (i.zero, i.size, i.bytes)) = some (some z, size, bytes)) : ∃ i, Try.prog.info? t = some i ∧ i.zero = some z ∧ i.size = size ∧ i.bytes = bytes := by
  obtain ⟨i, hi, h⟩ := Option.map_eq_some_iff.1 h
  injection h with h0 h
  injection h with h1 h2
  exact ⟨i, hi, h0, h1, h2⟩
/-- The words of a row as its cells. -/
def us (xs : List Int) : List Value := xs.map (Value.int .u64)
theorem us_push (xs : List Int) (x : Int) : us (xs ++ [x]) = us xs ++ [.int .u64 x] := by simp [us]
abbrev OwnU (w : World) (B : Nat) (v : Value) (xs : List Int) : Prop := w.ownsRow B TU 1 v xs.length (us xs)
theorem push_u {B : Nat} {w : World} (hB : B ≤ w.heap.size) {v : Value} {xs : List Int} (hown : OwnU w B v xs) (hn : xs.length ≤ 300000) (x : Int) :
    ∃ A c w', (Builtin.append_ #[TR, TR] TR #[v, .slice (some ⟨w.heap.size, 0, none⟩) 1 1]).run Try.prog (w.alloc (.cells #[.int .u64 x] TU)) = .ok (.slice A (xs.length + 1) c) w' ∧
      OwnU w' B (.slice A (xs.length + 1) c) (xs ++ [x]) ∧ Below B w w' ∧ (∀ g2, g2 < w.heap.size → v.ownBlock ≠ some g2 → w'.heap[g2]? = w.heap[g2]?) ∧ ((Value.slice A (xs.length + 1) c).ownBlock = v.ownBlock ∨ ∃ g, (Value.slice A (xs.length + 1) c).ownBlock = some g ∧ w.heap.size ≤ g) := by
  obtain ⟨i0, hi, hz0, hz1, hz2⟩ := info_parts info_u
  have hown1 := hown.alloc (.cells #[.int .u64 x] TU)
  obtain ⟨v', w', hrun, hown', hgr, _, hat⟩ := run_append_own_at (P := Try.prog) (w := w.alloc (.cells #[.int .u64 x] TU)) B TR TR TU i0 _ 1 8 Try.underlying37 hi hz0 hz1 hz2 rfl (by decide) v xs.length (us xs) hown1 ⟨w.heap.size, 0, none⟩ 1 1 [.int .u64 x] rfl (cell_lit (W := w) (l := [.int .u64 x])) (by simp [Value.oneCell'])
    (by unfold maxLen; omega) (by omega) (by rw [size_new]; omega)
  obtain ⟨A, c, rfl, _⟩ := own_slice hown'
  refine ⟨A, c, w', hrun, ?_, ((Below.refl B w).alloc hB _).grown hgr (by rw [size_new]; omega) (fun k hk => (own_row hown1 k hk).1), fun g2 hg2 hne => ?_, ?_⟩
  · unfold OwnU
    rw [List.length_append, us_push]
    exact hown'
  · exact (hgr.block g2 (by rw [size_new]; omega) (fun e => hne e.symm)).trans (BlkW.heap_alloc_old w _ g2 hg2)
  · rcases hat with h | h
    · exact .inl h
    · exact .inr ⟨_, h, by rw [size_new]; omega⟩
/-- append, run in a known way, as one step of a region that draws. -/
theorem step_append_run {P : Program} {ops : Array Oper} {o : Oper} {a : Act} {w : World} {K : Act → World → Prop} {Q : Exit → Act → World → Prop} {E : Prop}
    (hg : o.guard = none) (s x : Operand) (t : TypeId) (hop : o.op = Op.call { callee := Callee.builtin Builtin.append, args := #[s, x], argTypes := #[t, t] })
    (vs vx v : Value) (w' : World) (hs : a.eval s = vs) (hx : a.eval x = vx) (hrun : (Builtin.append_ #[t, t] o.type #[vs, vx]).run P w = .ok v w')
    (hK : K (a.put o.dst v) w') : if Region.wanted o (yielded ops a.tmps) = true then Oper.wp P o a w K Q else E := by
  have hw : Region.wanted o (yielded ops a.tmps) = true := by simp [Region.wanted, hg]
  rw [if_pos hw]
  unfold Oper.wp
  simp [execOp, hop, resolve, invoke, builtin, hs, hx, hrun, Result.andThen]
  exact hK
end Go.Proofs.Ytpjbmbipkmpkhaa.CelV
