/-
  Texts on no program: a table of rows of plain fields that reads as listed holds just those cells; a package-level variable's cells stay through whatever leaves old blocks alone.
-/
import Derived.Test.YtpjbmbipkmpkhaaFrame
import Derived.LaidMore
import Derived.LaidSub
import Derived.LaidLaws
import Derived.MakeChecks
import Derived.Stop.LaidErr
import Derived.Lib.LaidTab
import Derived.Deep.Draws
namespace Go.Proofs.Ytpjbmbipkmpkhaa.PlainT
open Go.ChangeShapes Go.WideShapes Go.ChangeAt Go.RowKit
set_option linter.unusedVariables false

section
variable {H : Type} {enc : TypeId × Value → H} {P : Program} {w : World} {base : Nat} {sp : Nat → Bool} {held : Bool} {fuel : Nat}
theorem trod_lit {t : TypeId} {cs : List Value} {l : Lit} {p : List MemPlace} (h : DataW.trod enc P w base sp held fuel t cs = some (.lit l, p)) : cs = [l.value] := by
  cases fuel with
  | zero => simp [DataW.trod] at h
  | succ fuel =>
    unfold DataW.trod at h
    split at h <;> try (simp at h; done)
    all_goals try (split at h)
    all_goals try (simp at h; done)
    all_goals try (simp only [Option.some.injEq, Prod.mk.injEq, DataW.lit.injEq] at h; obtain ⟨rfl, _⟩ := h; first | rfl | (rename_i hk _; rw [hk.1]; rfl) | (rename_i hk; rw [hk.1]; rfl))
    all_goals try (simp only [Option.map_eq_some_iff, Prod.mk.injEq, reduceCtorEq, false_and, and_false, exists_false] at h)
    all_goals try (simp [Option.bind_eq_some_iff] at h; done)

/-- A table of rows of plain fields: cell for cell. -/
theorem rows_cells {t e : TypeId} {n m : Nat} {fs : Array Field} {cs : List Value} {rows : List (List Lit)} {p : List MemPlace}
    (ht : P.underlying t = some (.array n e)) (he : P.underlying e = some (.struct fs)) (hce : P.cellsOf e = m) (hct : P.cellsOf t = n * m) (hm : fs.size = m)
    (hfs : ∀ j, j < m → ∃ f, fs[j]? = some f ∧ f.offset = j) (hr : ∀ r ∈ rows, r.length = m)
    (h : DataW.trod enc P w base sp held fuel t cs = some (.agg (rows.map fun r => .agg (r.map .lit)), p)) : cs = rows.flatMap fun r => r.map Lit.value := by
  obtain ⟨xs, q, rfl, hx, hl, hxl, hg⟩ := DataW.trod_array ht h
  simp only [Prod.mk.injEq, DataW.agg.injEq] at hx
  rw [hce] at hg
  have hrl : rows.length = n := by
    have := congrArg List.length hx.1
    simp at this
    omega
  have key : ∀ i, i < n → ∀ j, j < m → cs[i * m + j]? = ((rows.getD i []).map Lit.value)[j]? := by
    intro i hi j hj
    have hxi : i < xs.length := by omega
    have hgi := hg i hi
    rw [List.getElem?_eq_getElem hxi] at hgi
    have hri : i < rows.length := by omega
    have e1 : (xs[i]).1 = .agg (rows[i].map .lit) := by
      have := congrArg (fun l => l[i]?) hx.1
      simp only [List.getElem?_map, List.getElem?_eq_getElem hxi, List.getElem?_eq_getElem hri, Option.map_some, Option.some.injEq] at this
      exact this.symm
    obtain ⟨ys, q2, _, hy, hyc, hyl, hf⟩ := DataW.trod_struct he hgi
    rw [hy] at e1
    simp only [DataW.agg.injEq] at e1
    obtain ⟨f, hfj, ho⟩ := hfs j hj
    have hfj2 := hf j f hfj
    have hyj : j < ys.length := by omega
    rw [List.getElem?_eq_getElem hyj] at hfj2
    have hrj : j < rows[i].length := by rw [hr _ (List.getElem_mem hri)]; exact hj
    have e2 : (ys[j]).1 = .lit (rows[i][j]) := by
      have := congrArg (fun l => l[j]?) e1
      simp only [List.getElem?_map, List.getElem?_eq_getElem hyj, List.getElem?_eq_getElem hrj, Option.map_some, Option.some.injEq] at this
      exact this
    have e3 : ys[j] = (.lit (rows[i][j]), (ys[j]).2) := by rw [← e2]
    rw [e3, ho] at hfj2
    have e4 := trod_lit hfj2
    have e5 : (((cs.drop (i * m)).take m).drop j)[0]? = some (rows[i][j].value) := by
      have := congrArg (fun l => l[0]?) e4
      simp only [List.getElem?_cons_zero] at this
      rw [List.getElem?_take] at this
      split at this
      · exact this
      · cases this
    rw [List.getElem?_drop, List.getElem?_take, List.getElem?_drop] at e5
    rw [if_pos (by omega)] at e5
    rw [List.getD_eq_getElem?_getD, List.getElem?_eq_getElem hri, Option.getD_some, List.getElem?_map, List.getElem?_eq_getElem hrj]
    simpa using e5
  have flat : ∀ (rs : List (List Lit)), (∀ r ∈ rs, r.length = m) → ∀ i, i < rs.length → ∀ j, j < m → (rs.flatMap fun r => r.map Lit.value)[i * m + j]? = ((rs.getD i []).map Lit.value)[j]? := by
    intro rs
    induction rs with
    | nil => intro _ i hi; simp at hi
    | cons r rs ih =>
      intro hrs i hi j hj
      have hrm : r.length = m := hrs r (by simp)
      cases i with
      | zero =>
        simp only [List.flatMap_cons, Nat.zero_mul, Nat.zero_add, List.getD_cons_zero]
        rw [List.getElem?_append_left (by simp; omega)]
      | succ i =>
        simp only [List.flatMap_cons, List.getD_cons_succ]
        rw [List.getElem?_append_right (by rw [List.length_map, hrm, Nat.succ_mul]; omega), List.length_map, hrm, show (i + 1) * m + j - m = i * m + j by rw [Nat.succ_mul]; omega]
        exact ih (fun x hx => hrs x (by simp [hx])) i (by simpa using hi) j hj
  have flen : ∀ (rs : List (List Lit)), (∀ r ∈ rs, r.length = m) → (rs.flatMap fun r => r.map Lit.value).length = rs.length * m := by
    intro rs
    induction rs with
    | nil => intro _; simp
    | cons r rs ih =>
      intro hrs
      rw [List.flatMap_cons, List.length_append, List.length_map, hrs r (by simp), ih (fun x hx => hrs x (by simp [hx])), List.length_cons, Nat.succ_mul]
      omega
  apply List.ext_getElem?
  intro q0
  by_cases hq : q0 < n * m
  · have hm0 : 0 < m := by
      rcases Nat.eq_zero_or_pos m with h0 | h0
      · subst h0; simp at hq
      · exact h0
    have hdm : q0 = q0 / m * m + q0 % m := (Nat.div_add_mod' q0 m).symm
    have hi : q0 / m < n := Nat.div_lt_of_lt_mul (by rwa [Nat.mul_comm])
    have hj : q0 % m < m := Nat.mod_lt _ hm0
    rw [hdm, key _ hi _ hj, flat rows hr _ (by omega) _ hj]
  · rw [List.getElem?_eq_none (by rw [hl, hct]; omega), List.getElem?_eq_none (by rw [flen rows hr, hrl]; omega)]
end

/-! ### Variables. -/
/-- Block g holds the cells arr. -/
def Var (w : World) (g : Nat) (arr : Array Value) : Prop := g < w.heap.size ∧ ∃ t fr, w.heap[g]? = some (.cells arr t fr)
/-- All old blocks are as they were. -/
def Old (w w' : World) : Prop := w.heap.size ≤ w'.heap.size ∧ ∀ i, i < w.heap.size → w'.heap[i]? = w.heap[i]?
theorem Old.refl (w : World) : Old w w := ⟨Nat.le_refl _, fun _ _ => rfl⟩
theorem Old.trans {a b c : World} (h : Old a b) (k : Old b c) : Old a c := ⟨Nat.le_trans h.1 k.1, fun i hi => (k.2 i (Nat.lt_of_lt_of_le hi h.1)).trans (h.2 i hi)⟩
theorem Old.of_below {w w' : World} (h : Below w.heap.size w w') : Old w w' := ⟨h.size, h.block⟩
theorem Old.of_kept {w w' : World} (h : LawFrame.Kept w w') : Old w w' := ⟨h.2.2.1, h.2.2.2⟩
theorem Old.drewN {w w' : World} (h : Old w w') (n : Nat) : Old w (w'.drewN n) := h
theorem Old.drew {w w' : World} (h : Old w w') : Old w w'.drew := h
theorem Old.alloc {w w' : World} (h : Old w w') (o : Obj) : Old w (w'.alloc o) := by
  refine ⟨?_, fun i hi => ?_⟩
  · show _ ≤ (w'.heap.push o).size
    rw [Array.size_push]; have := h.1; omega
  · show (w'.heap.push o)[i]? = _
    rw [Array.getElem?_push, if_neg (by have := h.1; omega)]
    exact h.2 i hi
theorem Old.setCell {w w' : World} (h : Old w w') {p : Addr} (hp : w.heap.size ≤ p.block) (v : Value) : Old w (w'.setCell p v) := by
  refine ⟨by simpa [World.setCell] using h.1, fun i hi => ?_⟩
  rw [Below.heap_setCell w' p v i (by omega)]
  exact h.2 i hi
theorem Old.cell {w w' : World} (h : Old w w') {p : Addr} (hp : p.block < w.heap.size) : w'.cell? p = w.cell? p := World.cell?_of_block (h.2 p.block hp)
theorem Var.old {w w' : World} {g : Nat} {arr : Array Value} (h : Var w g arr) (k : Old w w') : Var w' g arr := by
  obtain ⟨h0, t, fr, e⟩ := h
  exact ⟨Nat.lt_of_lt_of_le h0 k.1, t, fr, (k.2 _ h0).trans e⟩
theorem Var.cell {w : World} {g : Nat} {arr : Array Value} (h : Var w g arr) (j : Nat) : w.cell? ⟨g, j, none⟩ = arr[j]? := by
  obtain ⟨_, t, fr, e⟩ := h
  simp [World.cell?, e]
theorem Var.var? {P : Program} {w : World} {g : Nat} {arr : Array Value} {n : String} (h : Var w g arr) (hn : P.globalNamed n = some g) : w.var? P n = some arr := by
  obtain ⟨_, t, fr, e⟩ := h
  simp only [World.var?, hn, Option.bind_some, e]
theorem Var.of_var? {P : Program} {w : World} {g : Nat} {arr : Array Value} {n : String} (hn : P.globalNamed n = some g) (h : w.var? P n = some arr) : Var w g arr := by
  simp only [World.var?, hn, Option.bind_some] at h
  split at h
  · rename_i cs t fr e
    cases h
    exact ⟨(Array.getElem?_eq_some_iff.1 e).1, t, fr, e⟩
  · cases h
/-- One variable of a list. -/
theorem laid_one {P : Program} {l : List (String × DataW Unit)} {w : World} {n : String} {d : DataW Unit} {g : Nat} {t : TypeId}
    (h : laidMet P l w) (keep : (l.filter fun x => x.1 == n) = [(n, d)]) (hg : P.globalNamed n = some g) (ht : (P.globals[g]?).map (·.type) = some t) :
    ∃ arr fuel p, Var w g arr ∧ DataW.trod (fun _ => ()) P w 0 (fun _ => true) false fuel t arr.toList = some (d, p) := by
  have h1 := laidMet.filter (fun x => x.1 == n) h
  rw [keep] at h1
  obtain ⟨ps, ⟨g0, t0, cs0, f0, p0, q0, hg0, ht0, hv0, hd0, _, _⟩, _, _⟩ := h1
  obtain rfl := Option.some.inj (hg.symm.trans hg0)
  obtain rfl := Option.some.inj (ht.symm.trans ht0)
  exact ⟨cs0, f0, p0, Var.of_var? hg hv0, hd0⟩
end Go.Proofs.Ytpjbmbipkmpkhaa.PlainT
