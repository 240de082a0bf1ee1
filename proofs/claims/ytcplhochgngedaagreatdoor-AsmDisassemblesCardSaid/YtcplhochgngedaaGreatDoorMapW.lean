/-
  Texts on no program: maps and rows of the call's own. What a map reads as, by a plain function from keys to values; owned rows and maps stay when old blocks stay; append as one step of a region that draws its order.
-/
import Derived.Test.YtcplhochgngedaaGreatDoorBlk
import Derived.Maps.OwnSet
import Derived.Maps.StringElems
import Derived.StringKeys
import Derived.Laws.OwnMore
import Derived.Deep.RegionLaw
namespace Go.Proofs.YtcplhochgngedaaGreatDoor.MapW
open Go.RowKit Go.Maps
open PlainT BlkW
set_option linter.unusedVariables false

/-- The map's datum D holds just what C says. -/
def Holds (D : DataW Unit) (C : Lit → Option Lit) : Prop := IsMap D ∧ ∀ kl : Lit, WideAt.IsKeyLit kl → (match C kl with | some v => Maps.has D kl = true ∧ ∀ z, D.atKey kl z = .lit v | none => Maps.has D kl = false)
theorem Holds.empty : Holds (.map []) (fun _ => none) := ⟨isMap_empty, fun _ _ => rfl⟩
theorem Holds.put {D : DataW Unit} {C C' : Lit → Option Lit} (h : Holds D C) {kl v : Lit} (hk : WideAt.IsKeyLit kl) (h1 : C' kl = some v) (h2 : ∀ k, k ≠ kl → C' k = C k) : Holds (D.put kl (.lit v)) C' := by
  refine ⟨h.1.put kl _, fun k hkk => ?_⟩
  by_cases e : k = kl
  · subst e
    rw [h1]
    exact ⟨has_put_same h.1 hk _, fun z => atKey_put_same h.1 hk _ z⟩
  · rw [h2 k e]
    have := h.2 k hkk
    cases hc : C k with
    | none =>
      rw [hc] at this
      simp only at this ⊢
      rw [has_put_other e]; exact this
    | some u =>
      rw [hc] at this
      simp only at this ⊢
      exact ⟨by rw [has_put_other e]; exact this.1, fun z => by rw [atKey_put_other e]; exact this.2 z⟩
theorem Holds.congr {D : DataW Unit} {C C' : Lit → Option Lit} (h : Holds D C) (e : ∀ k, WideAt.IsKeyLit k → C k = C' k) : Holds D C' := ⟨h.1, fun k hk => by rw [← e k hk]; exact h.2 k hk⟩

/-- Block b of w is a map (keys of type k, elements of the plain type e) that holds just what C says. -/
def OwnM (P : Program) (k e : TypeId) (w : World) (b N : Nat) (C : Lit → Option Lit) : Prop := ∃ n D, w.ownsMap P k (plainElem P e) b n D ∧ n ≤ N ∧ Holds D C
section
variable {P : Program} {k e t : TypeId} {w w' : World} {b N : Nat} {C : Lit → Option Lit}
theorem OwnM.made (w : World) (P : Program) (k e : TypeId) : OwnM P k e (w.alloc (.map #[] 0)) w.heap.size 0 (fun _ => none) := ⟨0, _, World.ownsMap_made w P k _, Nat.le_refl _, Holds.empty⟩
theorem OwnM.of_block (h : OwnM P k e w b N C) (hb : w'.heap[b]? = w.heap[b]?) : OwnM P k e w' b N C := by
  obtain ⟨n, D, ⟨es, clock, h1, h2⟩, hn, hh⟩ := h
  exact ⟨n, D, ⟨es, clock, hb.trans h1, h2⟩, hn, hh⟩
theorem OwnM.lt (h : OwnM P k e w b N C) : b < w.heap.size := by
  obtain ⟨n, D, h1, _⟩ := h
  exact h1.lt
theorem OwnM.old (h : OwnM P k e w b N C) (o : Old w w') : OwnM P k e w' b N C := h.of_block (o.2 b h.lt)
theorem OwnM.drewN (h : OwnM P k e w b N C) (n : Nat) : OwnM P k e (w.drewN n) b N C := h
theorem OwnM.alloc (h : OwnM P k e w b N C) (o : Obj) : OwnM P k e (w.alloc o) b N C := h.old ((Old.refl w).alloc o)
theorem OwnM.grown {row : Option Nat} (h : OwnM P k e w b N C) (hg : w.grownBy w' row) (hr : some b ≠ row) : OwnM P k e w' b N C := h.of_block (hg.block b h.lt hr)
theorem OwnM.setCell (h : OwnM P k e w b N C) {a : Addr} (ha : b ≠ a.block) (u : Value) : OwnM P k e (w.setCell a u) b N C := h.of_block (Below.heap_setCell w a u b ha)
theorem OwnM.no_cells (h : OwnM P k e w b N C) {g : Nat} {cs : Array Value} {t : TypeId} {fr : Nat × Nat} (hg : w.heap[g]? = some (.cells cs t fr)) : b ≠ g := by
  rintro rfl
  obtain ⟨n, D, ⟨es, clock, h1, _⟩, _⟩ := h
  rw [h1] at hg
  cases hg
/-- A key that is there. -/
theorem OwnM.hit_int {q : IntKind} (h : OwnM P k e w b N C) (K : Keyed P k) (ht : P.underlying t = some (.map k e)) (he : P.underlying e = some (.int q)) (hz : (zeroValue e).run P w = .ok (.int q 0) w) {key : Value} {kl : Lit} (hkey : keyOf P k key = some kl) (hkl : WideAt.IsKeyLit kl) {c : Int}
    (hc : C kl = some (.int q c)) : (Instr.lookup t (.map (some b)) key true).run P w = .ok (.tuple #[.int q c, .bool true]) w := by
  obtain ⟨n, D, h1, _, h2⟩ := h
  obtain ⟨v, ps, hrun, hv⟩ := h1.look_ok K ht hz (plainElem_int he (by cases q <;> decide)) hkey
  have := h2.2 kl hkl
  rw [hc] at this
  simp only at this
  rw [this.1] at hrun
  rw [this.2] at hv
  obtain ⟨c', rfl, hc', _⟩ := plainElem_int_inv he hv
  simp only [Prod.mk.injEq, DataW.lit.injEq, Lit.int.injEq, true_and] at hc'
  rw [hrun, ← hc'.1]
theorem OwnM.miss_int {q : IntKind} (h : OwnM P k e w b N C) (K : Keyed P k) (ht : P.underlying t = some (.map k e)) (he : P.underlying e = some (.int q)) (hz : (zeroValue e).run P w = .ok (.int q 0) w) {key : Value} {kl : Lit} (hkey : keyOf P k key = some kl) (hkl : WideAt.IsKeyLit kl)
    (hc : C kl = none) : (Instr.lookup t (.map (some b)) key true).run P w = .ok (.tuple #[.int q 0, .bool false]) w := by
  obtain ⟨n, D, h1, _, h2⟩ := h
  obtain ⟨v, ps, hrun, hv⟩ := h1.look_ok K ht hz (plainElem_int he (by cases q <;> decide)) hkey
  have := h2.2 kl hkl
  rw [hc] at this
  simp only at this
  rw [this] at hrun
  rw [atKey_of_not_has this] at hv
  obtain ⟨c', rfl, hc', _⟩ := plainElem_int_inv he hv
  simp only [Prod.mk.injEq, DataW.lit.injEq, Lit.int.injEq, true_and] at hc'
  rw [hrun, ← hc'.1]
theorem OwnM.hit_str (c : Bool) (h : OwnM P k e w b N C) (K : Keyed P k) (ht : P.underlying t = some (.map k e)) (he : P.underlying e = some .string) (hz : (zeroValue e).run P w = .ok (.string ⟨#[]⟩) w) {key : Value} {kl : Lit} (hkey : keyOf P k key = some kl) (hkl : WideAt.IsKeyLit kl) {s : List UInt8}
    (hc : C kl = some (.string s)) : (Instr.lookup t (.map (some b)) key c).run P w = .ok (if c = true then .tuple #[.string ⟨s.toArray⟩, .bool true] else .string ⟨s.toArray⟩) w := by
  obtain ⟨n, D, h1, _, h2⟩ := h
  have := h2.2 kl hkl
  rw [hc] at this
  simp only at this
  cases c with
  | true =>
    obtain ⟨v, ps, hrun, hv⟩ := h1.look_ok K ht hz (plainElem_string he (s := ⟨#[]⟩) (Nat.zero_le _)) hkey
    rw [this.1] at hrun
    rw [this.2] at hv
    obtain ⟨c', rfl, hc', _⟩ := plainElem_string_inv he hv
    simp only [Prod.mk.injEq, DataW.lit.injEq, Lit.string.injEq] at hc'
    rw [if_pos rfl, hrun, hc'.1]
  | false =>
    obtain ⟨v, ps, hrun, hv⟩ := h1.lookup K ht hz (plainElem_string he (s := ⟨#[]⟩) (Nat.zero_le _)) hkey
    rw [this.2] at hv
    obtain ⟨c', rfl, hc', _⟩ := plainElem_string_inv he hv
    simp only [Prod.mk.injEq, DataW.lit.injEq, Lit.string.injEq] at hc'
    rw [if_neg (by simp), hrun, hc'.1]
theorem OwnM.miss_str (c : Bool) (h : OwnM P k e w b N C) (K : Keyed P k) (ht : P.underlying t = some (.map k e)) (he : P.underlying e = some .string) (hz : (zeroValue e).run P w = .ok (.string ⟨#[]⟩) w) {key : Value} {kl : Lit} (hkey : keyOf P k key = some kl) (hkl : WideAt.IsKeyLit kl)
    (hc : C kl = none) : (Instr.lookup t (.map (some b)) key c).run P w = .ok (if c = true then .tuple #[.string ⟨#[]⟩, .bool false] else .string ⟨#[]⟩) w := by
  obtain ⟨n, D, h1, _, h2⟩ := h
  have := h2.2 kl hkl
  rw [hc] at this
  simp only at this
  cases c with
  | true =>
    obtain ⟨v, ps, hrun, hv⟩ := h1.look_ok K ht hz (plainElem_string he (s := ⟨#[]⟩) (Nat.zero_le _)) hkey
    rw [this] at hrun
    rw [atKey_of_not_has this] at hv
    obtain ⟨c', rfl, hc', _⟩ := plainElem_string_inv he hv
    simp only [Prod.mk.injEq, DataW.lit.injEq, Lit.string.injEq] at hc'
    rw [if_pos rfl, hrun]
    have : c' = ⟨#[]⟩ := by
      obtain ⟨⟨l⟩⟩ := c'
      exact congrArg (fun x => (⟨⟨x⟩⟩ : ByteArray)) hc'.1.symm
    rw [this]
  | false =>
    obtain ⟨v, ps, hrun, hv⟩ := h1.lookup K ht hz (plainElem_string he (s := ⟨#[]⟩) (Nat.zero_le _)) hkey
    rw [atKey_of_not_has this] at hv
    obtain ⟨c', rfl, hc', _⟩ := plainElem_string_inv he hv
    simp only [Prod.mk.injEq, DataW.lit.injEq, Lit.string.injEq] at hc'
    rw [if_neg (by simp), hrun]
    have : c' = ⟨#[]⟩ := by
      obtain ⟨⟨l⟩⟩ := c'
      exact congrArg (fun x => (⟨⟨x⟩⟩ : ByteArray)) hc'.1.symm
    rw [this]
/-- A store. -/
theorem OwnM.store (h : OwnM P k e w b N C) (hN : N < 1000000) (K : Keyed P k) (ht : P.underlying t = some (.map k e)) {key val : Value} {kl v : Lit} {C' : Lit → Option Lit} (hC : C' kl = some v) (hO : ∀ k, k ≠ kl → C' k = C k) (hkey : keyOf P k key = some kl) (hkl : WideAt.IsKeyLit kl) (hv : plainElem (H := Unit) P e val = some (.lit v, [])) :
    ∃ w', (Instr.mapUpdate t (.map (some b)) key val).run P w = .ok () w' ∧ OwnM P k e w' b (N + 1) C' ∧ w.grownBy w' (some b) := by
  obtain ⟨n, D, h1, hn, h2⟩ := h
  obtain ⟨w', hrun, h3, h4⟩ := h1.update K ht (by unfold maxLen; omega) hkey hv
  exact ⟨w', hrun, ⟨n + 1, _, h3, by omega, h2.put hkl hC hO⟩, h4⟩
end

/-! ### Rows. -/
section
variable {w w' : World} {base size n : Nat} {e : TypeId} {v : Value} {xs : List Value}
theorem own_of_block (h : w.ownsRow base e size v n xs) (hb : ∀ g, v.ownBlock = some g → w'.heap[g]? = w.heap[g]?) : w'.ownsRow base e size v n xs := by
  refine ⟨h.1, ?_⟩
  rcases h.2 with hn | ⟨g, cap, cur, rfl, h1, h2, h3⟩
  · exact .inl hn
  · exact .inr ⟨g, cap, cur, rfl, h1, (hb g rfl).trans h2, h3⟩
theorem own_old (h : w.ownsRow base e size v n xs) (o : Old w w') : w'.ownsRow base e size v n xs := own_of_block h fun g hg => o.2 g (h.lt g hg).2
theorem own_drewN (h : w.ownsRow base e size v n xs) (k : Nat) : (w.drewN k).ownsRow base e size v n xs := h
theorem own_far (h : w.ownsRow base e size v n xs) {a : Addr} (ha : v.ownBlock ≠ some a.block) (u : Value) : (w.setCell a u).ownsRow base e size v n xs :=
  own_of_block h fun g hg => Below.heap_setCell w a u g (fun e0 => ha (by rw [hg, e0]))
theorem own_slice (h : w.ownsRow base e size v n xs) : ∃ A c, v = .slice A n c ∧ n ≤ c ∧ c ≤ maxLen := by
  rcases h.2 with ⟨rfl, rfl⟩ | ⟨g, cap, cur, rfl, _, _, h3, h4, _⟩
  · exact ⟨none, 0, rfl, Nat.le_refl _, Nat.zero_le _⟩
  · exact ⟨_, _, rfl, h3, h4⟩
theorem own_cells (h : w.ownsRow base e size v n xs) (hn : 0 < n) : ∃ g cap cur, v = .slice (some ⟨g, 0, none⟩) n cap ∧ base ≤ g ∧ w.heap[g]? = some (.cells cur e (0, 0)) ∧ g < w.heap.size ∧ ∀ j, j < n * size → w.cell? ⟨g, j, none⟩ = xs[j]? := by
  rcases h.2 with ⟨rfl, rfl⟩ | ⟨g, cap, cur, rfl, h1, h2, h3⟩
  · omega
  · exact ⟨g, cap, cur, rfl, h1, h2, lt_of_some h2, fun j hj => h.cellAt j hj⟩
/-- An owned row and a block of another type. -/
theorem own_ne {t : TypeId} {cs : Array Value} {g : Nat} {fr : Nat × Nat} (h : w.ownsRow base e size v n xs) (hg : w.heap[g]? = some (.cells cs t fr)) (hne : e ≠ t) : v.ownBlock ≠ some g := by
  rcases h.2 with ⟨rfl, _⟩ | ⟨g', cap, cur, rfl, _, hh, _⟩
  · simp [Value.ownBlock]
  · intro he
    have : g' = g := by simpa [Value.ownBlock] using he
    subst this
    rw [hh] at hg
    injection hg with hg
    injection hg with _ ht
    exact hne ht
theorem own_ne_mem {t : TypeId} {cs : Array Value} {g : Nat} (h : w.ownsRow base e size v n xs) (hg : Mem w g t cs) (hne : e ≠ t) : v.ownBlock ≠ some g := own_ne h (fr := (0, 0)) hg hne
theorem map_ne_mem {P : Program} {k e' : TypeId} {b N g : Nat} {C : Lit → Option Lit} {t : TypeId} {cs : Array Value} (hm : OwnM P k e' w b N C) (hg : Mem w g t cs) : b ≠ g := hm.no_cells (fr := (0, 0)) hg
theorem own_ne_map {P : Program} {k e' : TypeId} {b N : Nat} {C : Lit → Option Lit} (h : w.ownsRow base e size v n xs) (hm : OwnM P k e' w b N C) : some b ≠ v.ownBlock := by
  rcases h.2 with ⟨rfl, _⟩ | ⟨g', cap, cur, rfl, _, hh, _⟩
  · simp [Value.ownBlock]
  · intro he
    have : b = g' := by simpa [Value.ownBlock] using he
    exact hm.no_cells hh this
theorem own_ne_own {e' : TypeId} {size' n' base' : Nat} {v' : Value} {xs' : List Value} (h : w.ownsRow base e size v n xs) (h' : w.ownsRow base' e' size' v' n' xs') (hne : e ≠ e') : v.ownBlock = none ∨ v.ownBlock ≠ v'.ownBlock := by
  rcases h'.2 with ⟨rfl, _⟩ | ⟨g', cap, cur, rfl, _, hh, _⟩
  · rcases h.2 with ⟨rfl, _⟩ | ⟨g, _, _, rfl, _⟩
    · left; rfl
    · right; simp [Value.ownBlock]
  · right
    exact own_ne h hh hne
end

/-- append, run in a known way, as one step of a region that draws. -/
theorem step_append_run {P : Program} {ops : Array Oper} {o : Oper} {a : Act} {w : World} {K : Act → World → Prop} {Q : Exit → Act → World → Prop} {E : Prop}
    (hg : o.guard = none) (s x : Operand) (t : TypeId) (hop : o.op = Op.call { callee := Callee.builtin Builtin.append, args := #[s, x], argTypes := #[t, t] })
    (vs vx v : Value) (w' : World) (hs : a.eval s = vs) (hx : a.eval x = vx) (hrun : (Builtin.append_ #[t, t] o.type #[vs, vx]).run P w = .ok v w')
    (hK : K (a.put o.dst v) w') : if Region.wanted o (yielded ops a.tmps) = true then Oper.wp P o a w K Q else E := by
  have hw : Region.wanted o (yielded ops a.tmps) = true := by simp [Region.wanted, hg]
  rw [if_pos hw]
  unfold Oper.wp
  simp [execOp, hop, resolve, invoke, builtin, hs, hx, hrun, Result.andThen]
  exact hK
end Go.Proofs.YtcplhochgngedaaGreatDoor.MapW
