/-
  The program that strongtxmake's Program makes, as a row of instructions whose distances are set.
-/
import Derived.Test.YtcplhochgngedaaGreatDoorDisC
import Derived.Test.YtcplhochgngedaaGreatDoorFrame
import Derived.Test.YtcplhochgngedaaGreatDoorPrgY
namespace Go.Proofs.YtcplhochgngedaaGreatDoor.AsmQ
open Go.ChangeShapes Go.WideShapes Go.ChangeAt Go.RowKit
open PlainT IsaE IsaS BlkW IsaA IsaB IsaF AsmT AsmC AsmE AsmF DisB
set_option linter.unusedVariables false
set_option maxHeartbeats 1000000
def toIn (x : PrgS.I5) : In := (x.op, ⟨x.a, x.b, x.c, x.i⟩)
theorem cells_in (ps : List PrgS.I5) : PrgG.cellsI ps = rowCells (ps.map toIn) := by
  unfold PrgG.cellsI rowCells
  rw [List.flatMap_map]
  rfl
theorem chk_go (P : List PrgS.I5) : ∀ (l : List PrgS.I5) (k : Nat) (o : Int), (PrgS.chkGo P l k o).2 = 0 → ∀ x ∈ l, PrgS.chkI x = 0
  | [], _, _, _, x, hx => by cases hx
  | y :: r, k, o, h, x, hx => by
    unfold PrgS.chkGo at h
    by_cases he : PrgS.errAt P k y o = 0
    · rw [if_neg (fun c => c he)] at h
      rcases List.mem_cons.1 hx with rfl | hx
      · unfold PrgS.errAt at he
        by_cases hc : PrgS.chkI x = 0
        · exact hc
        · rw [if_pos hc] at he
          exact absurd he hc
      · exact chk_go P r _ _ h x hx
    · rw [if_pos he] at h
      exact absurd h he
theorem valid_in {ps : List PrgS.I5} (h : PrgS.refChk ps = (0, 0)) : ∀ x ∈ ps.map toIn, AsmT.chkI x = 0 := by
  unfold PrgS.refChk at h
  split at h
  · injection h with _ h
    cases h
  · intro x hx
    obtain ⟨y, hy, rfl⟩ := List.mem_map.1 hx
    exact chk_go ps ps 0 (-1) (by rw [h]) y hy
/-- A row of instructions of the call's own. -/
def OwnP (w : World) (B : Nat) (A : Option Addr) (n c : Nat) (qs : List In) : Prop := qs.length = n ∧ w.ownsRow B 40 5 (.slice A n c) n (rowCells qs)
section
variable {w w' : World} {B n c : Nat} {A : Option Addr} {qs : List In}
theorem OwnP.row (h : OwnP w B A n c qs) : RowP w A n qs := .of_ins (row_of_own h.2 h.1)
theorem OwnP.block (h : OwnP w B A n c qs) (hb : ∀ g, B ≤ g → g < w.heap.size → w'.heap[g]? = w.heap[g]?) : OwnP w' B A n c qs := by
  refine ⟨h.1, h.2.1, ?_⟩
  rcases h.2.2 with hn | ⟨g, cap, cur, e, h1, h2, h3⟩
  · exact .inl hn
  · exact .inr ⟨g, cap, cur, e, h1, (hb g h1 (lt_of_some h2)).trans h2, h3⟩
theorem OwnP.below (h : OwnP w B A n c qs) (k : Below w.heap.size w w') : OwnP w' B A n c qs := h.block fun g _ hg => k.block g hg
theorem OwnP.at_ (h : OwnP w B A n c qs) (hn : 0 < n) : ∃ g, A = some ⟨g, 0, none⟩ ∧ B ≤ g ∧ g < w.heap.size ∧ ∀ j u, (rowCells qs)[j]? = some u → w.cell? ⟨g, j, none⟩ = some u ∧ w.frozen? ⟨g, j, none⟩ = false := by
  rcases h.2.2 with ⟨_, rfl⟩ | ⟨g, cap, cur, e, h1, h2, h3⟩
  · omega
  · injection e with e1 e2 e3
    subst e1
    refine ⟨g, rfl, h1, lt_of_some h2, fun j u hu => ⟨?_, Mem.frozen (show Mem w g 40 cur from h2) j⟩⟩
    have hj := (List.getElem?_eq_some_iff.1 hu).1
    rw [rowCells_length, h.1] at hj
    have := Own.own_cellAt h.2 j hj
    rw [this]
    exact hu
/-- A distance set. -/
theorem OwnP.put {g : Nat} (h : OwnP w B (some ⟨g, 0, none⟩) n c qs) {k : Nat} (hk : k < n) (v : Int) : OwnP (w.setCell ⟨g, k * 5 + 4, none⟩ (.int .i64 v)) B (some ⟨g, 0, none⟩) n c (setImm qs k v) := by
  refine ⟨by rw [setImm_length]; exact h.1, ?_⟩
  have := (World.ownsRow.stored h.2 (k * 5 + 4) (.int .i64 v)).1
  rw [rowCells_set qs k v (by rw [h.1]; exact hk)] at this
  exact this
end
theorem setImm_mem {qs : List In} {k : Nat} {v : Int} {P : In → Prop} (h : ∀ x ∈ qs, P x) (hk : ∀ x, qs[k]? = some x → P (x.1, { x.2 with i := v })) : ∀ x ∈ setImm qs k v, P x := by
  intro x hx
  obtain ⟨j, hj, rfl⟩ := List.getElem_of_mem hx
  unfold setImm at hj ⊢
  rw [List.length_modify] at hj
  rw [List.getElem_modify]
  split
  · rename_i e
    subst e
    exact hk _ (List.getElem?_eq_getElem hj)
  · exact h _ (List.getElem_mem hj)
/-- A jump stays valid with another distance. -/
theorem jump_any {x : In} (h : isJ x = true) {v : Int} (h0 : 0 ≤ v) (h1 : v ≤ 64) : AsmT.chkI (x.1, { x.2 with i := v }) = 0 := by
  obtain ⟨c0, c1⟩ := DisA.isJ_op h
  obtain ⟨op, a, b, c, i⟩ := x
  unfold AsmT.chkI at c0 ⊢
  simp only at c0 c1 ⊢
  have key : ∀ k : Nat, k < 18 → loI k = 0 → hiI k = 64 → chk k a b c i = 0 → chk k a b c v = 0 := fun k hk hlo hhi hc => by
    rw [chk_in k hk] at hc ⊢
    unfold chkV fit at hc ⊢
    rw [hlo, hhi] at hc ⊢
    by_cases hf : (pass (letters k) a b c && (zap 97 (letters k) a == 0 && (zap 98 (letters k) b == 0 && zap 99 (letters k) c == 0))) = true
    · rw [hf, decide_eq_true h0, decide_eq_true h1]
      rfl
    · exfalso
      rw [Bool.not_eq_true] at hf
      rw [hf, Bool.and_false] at hc
      revert hc
      simp
  rcases c1 with rfl | rfl | rfl
  · exact key 4 (by decide) rfl rfl c0
  · exact key 5 (by decide) rfl rfl c0
  · exact key 6 (by decide) rfl rfl c0
theorem ok_any {x : In} (h : DisA.OkI x) {v : Int} (h0 : 0 ≤ v) (h1 : v ≤ 64) : DisA.OkI (x.1, { x.2 with i := v }) := ⟨h.1, h.2.1, h.2.2.1, h.2.2.2.1, by unfold InInt; constructor <;> (show _; simp; omega)⟩
/-- What Program makes, as a row of instructions. -/
theorem made_in {w0 w : World} {m c : Nat} {A : Option Addr} {ps : List PrgS.I5} (h : PrgY.Good w0 w m A c ps) : OwnP w w0.heap.size A ps.length c (ps.map toIn) ∧ ps.length ≤ m ∧ (∀ x ∈ ps.map toIn, AsmT.chkI x = 0) ∧ ∀ x ∈ ps.map toIn, DisA.OkI x := by
  obtain ⟨h1, h2, h3, h4⟩ := h
  rw [cells_in] at h4
  exact ⟨⟨by rw [List.length_map], h4⟩, h1, valid_in h2, fun x hx => by
    obtain ⟨y, hy, rfl⟩ := List.mem_map.1 hx
    exact h3 y hy⟩
/-- An instruction of an own row: its cells. -/
theorem OwnP.five {w : World} {B n c k : Nat} {A : Option Addr} {qs : List In} (h : OwnP w B A n c qs) (hk : k < n) : ∃ (g : Nat) (x : In), A = some ⟨g, 0, none⟩ ∧ B ≤ g ∧ g < w.heap.size ∧ qs[k]? = some x ∧
    w.cell? ⟨g, k * 5, none⟩ = some (.int .i64 x.1) ∧ w.cell? ⟨g, k * 5 + 1, none⟩ = some (.int .i64 x.2.a) ∧ w.cell? ⟨g, k * 5 + 2, none⟩ = some (.int .i64 x.2.b) ∧ w.cell? ⟨g, k * 5 + 3, none⟩ = some (.int .i64 x.2.c) ∧ w.cell? ⟨g, k * 5 + 4, none⟩ = some (.int .i64 x.2.i) ∧ w.frozen? ⟨g, k * 5 + 4, none⟩ = false := by
  obtain ⟨g, hA, hB, hg, hc⟩ := h.at_ (by omega)
  have hk' : k < qs.length := by rw [h.1]; exact hk
  have e : ∀ j u, j < 5 → (insCells qs[k])[j]? = some u → w.cell? ⟨g, k * 5 + j, none⟩ = some u ∧ w.frozen? ⟨g, k * 5 + j, none⟩ = false := fun j u hj hu => by
    refine hc _ _ ?_
    rw [rowCells_get qs k j hk' hj, List.getD_eq_getElem?_getD, List.getElem?_eq_getElem hk']
    exact hu
  exact ⟨g, qs[k], hA, hB, hg, List.getElem?_eq_getElem hk', (e 0 _ (by omega) rfl).1, (e 1 _ (by omega) rfl).1, (e 2 _ (by omega) rfl).1, (e 3 _ (by omega) rfl).1, (e 4 _ (by omega) rfl).1, (e 4 _ (by omega) rfl).2⟩
theorem OwnP.cap {w : World} {B n c : Nat} {A : Option Addr} {qs : List In} (h : OwnP w B A n c qs) : n ≤ c ∧ c ≤ maxLen := by
  obtain ⟨A2, c2, e, h1, h2⟩ := Own.own_slice h.2
  injection e with e1 e2 e3
  subst e3
  exact ⟨h1, h2⟩
theorem iat {w0 w : World} {A : Option Addr} {n : Nat} {z : List Int} (h : LawFrame.Ints .i64 w0 A n z) (ho : Below w0.heap.size w0 w) {k : Nat} (hk : k < n) : ∃ b off x, A = some ⟨b, off, none⟩ ∧ b < w0.heap.size ∧ w.cell? ⟨b, off + k, none⟩ = some (.int .i64 x) := by
  obtain ⟨h1, h2, h3⟩ := h
  obtain ⟨b, off, rfl, hb, hc⟩ := h3 (by omega)
  exact ⟨b, off, _, rfl, hb, (World.cell?_of_block (ho.block b hb)).trans (hc k hk)⟩
theorem firstErr_of : ∀ {qs : List In}, (∀ x ∈ qs, AsmT.chkI x = 0) → DisC.firstErr qs = 0
  | [], _ => rfl
  | y :: r, h => by
    unfold DisC.firstErr
    rw [if_pos (h y (by simp))]
    exact firstErr_of fun x hx => h x (by simp [hx])
end Go.Proofs.YtcplhochgngedaaGreatDoor.AsmQ
