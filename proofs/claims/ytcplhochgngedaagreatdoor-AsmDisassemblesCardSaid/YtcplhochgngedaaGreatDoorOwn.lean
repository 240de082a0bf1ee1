/-
  Rows of the call's own: what stays; one value more at the end of a row.
-/
import Derived.Test.YtcplhochgngedaaGreatDoorPrgI
namespace Go.Proofs.YtcplhochgngedaaGreatDoor.Own
open Go.ChangeShapes Go.WideShapes Go.ChangeAt Go.RowKit
open PlainT BlkW
set_option linter.unusedVariables false
set_option maxHeartbeats 1000000

theorem wpList_append_run {P : Program} {ops : Array Oper} {rest : List Oper} {o : Oper} {a : Act} {w : World} {Q : Exit → Act → World → Prop} (hgd : o.guard = none) (s x : Operand) (t : TypeId)
    (ho : o.op = .call { callee := .builtin .append, args := #[s, x], argTypes := #[t, t] }) {vs vx v : Value} {w' : World} (hrun : (Builtin.append_ #[t, t] o.type #[vs, vx]).run P w = .ok v w') (hs : a.eval s = vs) (hx : a.eval x = vx)
    (h : wpList P ops Q rest (a.put o.dst v) w') : wpList P ops Q (o :: rest) a w := by
  refine wpList_plain hgd fun _ hK => ?_
  unfold Oper.wp execOp
  simp only [ho, resolve, invoke, builtin, Sem.run_bind, Sem.run_pure, Result.andThen_ok, List.map_toArray, List.map_cons, List.map_nil, hs, hx, hrun]
  exact hK _ _ h

theorem info_int : (Tryz.prog.info? 3).map (fun i => (i.zero, i.size, i.bytes)) = some (some (.int .i64 0), 1, 8) := by kernel_rfl
theorem info_ins : (Tryz.prog.info? 40).map (fun i => (i.zero, i.size, i.bytes)) = some (some (.agg #[.int .i64 0, .int .i64 0, .int .i64 0, .int .i64 0, .int .i64 0]), 5, 40) := by kernel_rfl
section
variable {w w' : World} {base size n : Nat} {e : TypeId} {v : Value} {xs : List Value}
theorem own_of_block (h : w.ownsRow base e size v n xs) (hb : ∀ g, v.ownBlock = some g → w'.heap[g]? = w.heap[g]?) : w'.ownsRow base e size v n xs := by
  refine ⟨h.1, ?_⟩
  rcases h.2 with hn | ⟨g, cap, cur, rfl, h1, h2, h3⟩
  · exact .inl hn
  · exact .inr ⟨g, cap, cur, rfl, h1, (hb g rfl).trans h2, h3⟩
theorem own_old (h : w.ownsRow base e size v n xs) (o : Old w w') : w'.ownsRow base e size v n xs := own_of_block h fun g hg => o.2 g (h.lt g hg).2
theorem own_drewN (h : w.ownsRow base e size v n xs) (k : Nat) : (w.drewN k).ownsRow base e size v n xs := h
theorem own_far (h : w.ownsRow base e size v n xs) {a : Addr} (ha : v.ownBlock ≠ some a.block) (u : Value) : (w.setCell a u).ownsRow base e size v n xs :=
  own_of_block h fun g hg => Below.heap_setCell w a u g (fun e0 => ha (by rw [hg, e0]))
theorem own_slice (h : w.ownsRow base e size v n xs) : ∃ A c, v = .slice A n c ∧ n ≤ c ∧ c ≤ maxLen := by
  rcases h.2 with ⟨rfl, rfl⟩ | ⟨g, cap, cur, rfl, _, _, h3, h4, _⟩
  · exact ⟨none, 0, rfl, Nat.le_refl _, Nat.zero_le _⟩
  · exact ⟨_, _, rfl, h3, h4⟩
theorem own_cellAt {g cap : Nat} (h : w.ownsRow base e size (.slice (some ⟨g, 0, none⟩) n cap) n xs) (j : Nat) (hj : j < n * size) : w.cell? ⟨g, j, none⟩ = xs[j]? := by
  have hx : xs[j]? = some (xs[j]'(by rw [h.1]; exact hj)) := List.getElem?_eq_getElem _
  have := h.cells (g := g) rfl j _ hx
  have hadd : (⟨g, 0, none⟩ : Addr).add j = ⟨g, j, none⟩ := by unfold Addr.add; split <;> simp_all
  rw [hadd] at this
  rw [this, hx]
theorem own_cells (h : w.ownsRow base e size v n xs) (hn : 0 < n) : ∃ g cap cur, v = .slice (some ⟨g, 0, none⟩) n cap ∧ base ≤ g ∧ w.heap[g]? = some (.cells cur e (0, 0)) ∧ g < w.heap.size ∧ ∀ j, j < n * size → w.cell? ⟨g, j, none⟩ = xs[j]? := by
  rcases h.2 with ⟨rfl, rfl⟩ | ⟨g, cap, cur, rfl, h1, h2, h3⟩
  · omega
  · exact ⟨g, cap, cur, rfl, h1, h2, lt_of_some h2, fun j hj => own_cellAt h j hj⟩
theorem own_ne {t : TypeId} {cs : Array Value} {g : Nat} {fr : Nat × Nat} (h : w.ownsRow base e size v n xs) (hg : w.heap[g]? = some (.cells cs t fr)) (hne : e ≠ t) : v.ownBlock ≠ some g := by
  rcases h.2 with ⟨rfl, _⟩ | ⟨g', cap, cur, rfl, _, hh, _⟩
  · simp [Value.ownBlock]
  · intro he
    have : g' = g := by simpa [Value.ownBlock] using he
    subst this
    rw [hh] at hg
    injection hg with hg
    injection hg with _ ht
    exact hne ht
theorem own_ne_mem {t : TypeId} {cs : Array Value} {g : Nat} (h : w.ownsRow base e size v n xs) (hg : Mem w g t cs) (hne : e ≠ t) : v.ownBlock ≠ some g := own_ne h (fr := (0, 0)) hg hne
theorem own_row (h : w.ownsRow base e size v n xs) : ∀ k, v.ownBlock = some k → base ≤ k ∧ ∃ (cs : Array Value) (t : TypeId) (fr : Nat × Nat), w.heap[k]? = some (.cells cs t fr) ∧ t = e := by
  intro k hk
  rcases h.2 with ⟨rfl, _⟩ | ⟨g, cap, cur, rfl, h1, h2, _⟩
  · simp [Value.ownBlock] at hk
  · simp [Value.ownBlock] at hk
    subst hk
    exact ⟨h1, cur, e, (0, 0), h2, rfl⟩
theorem own_mono {base' : Nat} (h : w.ownsRow base e size v n xs) (hb : base' ≤ base) : w.ownsRow base' e size v n xs := by
  refine ⟨h.1, ?_⟩
  rcases h.2 with hn | ⟨g, cap, cur, rfl, h1, h2⟩
  · exact .inl hn
  · exact .inr ⟨g, cap, cur, rfl, Nat.le_trans hb h1, h2⟩
end
theorem cell_lit {W : World} {T : TypeId} {l : List Value} : ∀ (j : Nat) u, l[j]? = some u → (W.alloc (.cells l.toArray T)).cell? ((⟨W.heap.size, 0, none⟩ : Addr).add j) = some u := by
  intro j u hu
  have e : (⟨W.heap.size, 0, none⟩ : Addr).add j = ⟨W.heap.size, j, none⟩ := by
    unfold Addr.add
    split
    · rename_i h; rw [h]
    · simp
  rw [e, (Mem.new W T l.toArray).cell j]
  simpa using hu

theorem own_kept {w w' : World} {base size n : Nat} {e : TypeId} {v : Value} {xs : List Value} {row : Option Nat} (h : w.ownsRow base e size v n xs) (hg : w.grownBy w' row) (hr : ∀ k, row = some k → ∃ (cs : Array Value) (t : TypeId) (fr : Nat × Nat), w.heap[k]? = some (.cells cs t fr) ∧ e ≠ t) : w'.ownsRow base e size v n xs :=
  own_of_block h fun g hgv => hg.block g (h.lt g hgv).2 (fun e0 => by
    obtain ⟨cs, t, fr, hh, hne⟩ := hr g e0.symm
    exact own_ne h hh hne hgv)
theorem push_i {B : Nat} {w : World} (hB : B ≤ w.heap.size) {v : Value} {n : Nat} {xs : List Value} (hown : w.ownsRow B 40 5 v n xs) (hn : n ≤ 300000) (a0 a1 a2 a3 a4 : Int) :
    ∃ A c w', (Builtin.append_ #[23, 23] 23 #[v, .slice (some ⟨w.heap.size, 0, none⟩) 1 1]).run Tryz.prog (w.alloc (.cells #[.int .i64 a0, .int .i64 a1, .int .i64 a2, .int .i64 a3, .int .i64 a4] 40)) = .ok (.slice A (n + 1) c) w' ∧
      w'.ownsRow B 40 5 (.slice A (n + 1) c) (n + 1) (xs ++ [.int .i64 a0, .int .i64 a1, .int .i64 a2, .int .i64 a3, .int .i64 a4]) ∧ Below B w w' ∧ (∀ t2 s2 v2 n2 xs2, t2 ≠ 40 → w.ownsRow B t2 s2 v2 n2 xs2 → w'.ownsRow B t2 s2 v2 n2 xs2) ∧ (∀ g2, g2 < w.heap.size → v.ownBlock ≠ some g2 → w'.heap[g2]? = w.heap[g2]?) := by
  obtain ⟨i0, hi, hz0, hz1, hz2⟩ := info_parts info_ins
  have hown1 := hown.alloc (.cells #[.int .i64 a0, .int .i64 a1, .int .i64 a2, .int .i64 a3, .int .i64 a4] 40)
  obtain ⟨v', w', hrun, hown', hgr, _⟩ := run_append_own (P := Tryz.prog) (w := w.alloc (.cells #[.int .i64 a0, .int .i64 a1, .int .i64 a2, .int .i64 a3, .int .i64 a4] 40)) B 23 23 40 i0 _ 5 40 Tryz.underlying23 hi hz0 hz1 hz2 rfl (by decide) v n xs hown1 ⟨w.heap.size, 0, none⟩ 1 1 [.int .i64 a0, .int .i64 a1, .int .i64 a2, .int .i64 a3, .int .i64 a4] rfl (cell_lit (W := w) (l := [.int .i64 a0, .int .i64 a1, .int .i64 a2, .int .i64 a3, .int .i64 a4])) (by simp [Value.oneCell'])
    (by unfold maxLen; omega) (by omega) (by rw [size_new]; omega)
  obtain ⟨A, c, rfl, _⟩ := own_slice hown'
  refine ⟨A, c, w', hrun, hown', ((Below.refl B w).alloc hB _).grown hgr (by rw [size_new]; omega) (fun k hk => (own_row hown1 k hk).1), fun t2 s2 v2 n2 xs2 hne ho => ?_, fun g2 hg2 hne => ?_⟩
  · refine own_kept (ho.alloc _) hgr (fun k hk => ?_)
    obtain ⟨_, cs, t, fr, hh, rfl⟩ := own_row hown1 k hk
    exact ⟨cs, _, fr, hh, hne⟩
  · exact (hgr.block g2 (by rw [size_new]; omega) (fun e => hne e.symm)).trans (BlkW.heap_alloc_old w _ g2 hg2)
theorem push_j {B : Nat} {w : World} (hB : B ≤ w.heap.size) {v : Value} {n : Nat} {xs : List Value} (hown : w.ownsRow B 3 1 v n xs) (hn : n ≤ 300000) (a0 : Int) :
    ∃ A c w', (Builtin.append_ #[29, 29] 29 #[v, .slice (some ⟨w.heap.size, 0, none⟩) 1 1]).run Tryz.prog (w.alloc (.cells #[.int .i64 a0] 3)) = .ok (.slice A (n + 1) c) w' ∧
      w'.ownsRow B 3 1 (.slice A (n + 1) c) (n + 1) (xs ++ [.int .i64 a0]) ∧ Below B w w' ∧ (∀ t2 s2 v2 n2 xs2, t2 ≠ 3 → w.ownsRow B t2 s2 v2 n2 xs2 → w'.ownsRow B t2 s2 v2 n2 xs2) ∧ (∀ g2, g2 < w.heap.size → v.ownBlock ≠ some g2 → w'.heap[g2]? = w.heap[g2]?) := by
  obtain ⟨i0, hi, hz0, hz1, hz2⟩ := info_parts info_int
  have hown1 := hown.alloc (.cells #[.int .i64 a0] 3)
  obtain ⟨v', w', hrun, hown', hgr, _⟩ := run_append_own (P := Tryz.prog) (w := w.alloc (.cells #[.int .i64 a0] 3)) B 29 29 3 i0 _ 1 8 Tryz.underlying29 hi hz0 hz1 hz2 rfl (by decide) v n xs hown1 ⟨w.heap.size, 0, none⟩ 1 1 [.int .i64 a0] rfl (cell_lit (W := w) (l := [.int .i64 a0])) (by simp [Value.oneCell'])
    (by unfold maxLen; omega) (by omega) (by rw [size_new]; omega)
  obtain ⟨A, c, rfl, _⟩ := own_slice hown'
  refine ⟨A, c, w', hrun, hown', ((Below.refl B w).alloc hB _).grown hgr (by rw [size_new]; omega) (fun k hk => (own_row hown1 k hk).1), fun t2 s2 v2 n2 xs2 hne ho => ?_, fun g2 hg2 hne => ?_⟩
  · refine own_kept (ho.alloc _) hgr (fun k hk => ?_)
    obtain ⟨_, cs, t, fr, hh, rfl⟩ := own_row hown1 k hk
    exact ⟨cs, _, fr, hh, hne⟩
  · exact (hgr.block g2 (by rw [size_new]; omega) (fun e => hne e.symm)).trans (BlkW.heap_alloc_old w _ g2 hg2)
end Go.Proofs.YtcplhochgngedaaGreatDoor.Own
