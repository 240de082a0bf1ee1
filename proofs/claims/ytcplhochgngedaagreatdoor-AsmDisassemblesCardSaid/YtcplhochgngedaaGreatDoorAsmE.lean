/-
  Contract of resolve (package asm); plain facts on assembling.
-/
import Derived.Test.YtcplhochgngedaaGreatDoorAsmR
namespace Go.Proofs.YtcplhochgngedaaGreatDoor.AsmE
open Go.ChangeShapes Go.WideShapes Go.ChangeAt Go.RowKit
open PlainT IsaE IsaS BlkW IsaA IsaB IsaF IsaP IsaQ IsaX IsaL AsmS AsmA AsmB IsaR MapW AsmC AsmR
set_option linter.unusedVariables false
set_option maxHeartbeats 1000000

/-! ### resolve. -/
def setImm (ps : List (Int × Fields)) (a : Nat) (v : Int) : List (Int × Fields) := ps.modify a fun x => (x.1, { x.2 with i := v })
def resJ (L : List (List UInt8 × Nat)) : List (Nat × List UInt8 × Nat) → List (Int × Fields) → Res (List (Int × Fields))
  | [], ps => .ok ps
  | x :: r, ps => match lookN L x.2.1 with | none => .err x.2.2 20 | some p => if p ≤ x.1 then .err x.2.2 20 else resJ L r (setImm ps x.1 ((p : Int) - x.1 - 1))
theorem setImm_length (ps : List (Int × Fields)) (a : Nat) (v : Int) : (setImm ps a v).length = ps.length := by unfold setImm; simp
theorem rowCells_get : ∀ (ps : List (Int × Fields)) (a j : Nat), a < ps.length → j < 5 → (rowCells ps)[a * 5 + j]? = (insCells (ps.getD a (0, ⟨0, 0, 0, 0⟩)))[j]?
  | [], a, j, h, _ => by simp at h
  | x :: ps, 0, j, h, hj => by
    unfold rowCells
    rw [List.flatMap_cons, List.getElem?_append_left (by simp [insCells]; omega)]
    simp
  | x :: ps, a + 1, j, h, hj => by
    have ih := rowCells_get ps a j (by simpa using h) hj
    unfold rowCells at ih ⊢
    rw [List.flatMap_cons, List.getElem?_append_right (by simp [insCells]; omega)]
    rw [show (a + 1) * 5 + j - (insCells x).length = a * 5 + j by simp [insCells]; omega, ih]
    simp
theorem rowCells_length (ps : List (Int × Fields)) : (rowCells ps).length = ps.length * 5 := by
  induction ps with
  | nil => rfl
  | cons x ps ih =>
    unfold rowCells at ih ⊢
    rw [List.flatMap_cons, List.length_append, ih, List.length_cons]
    simp [insCells]; omega
theorem rowCells_set : ∀ (ps : List (Int × Fields)) (a : Nat) (v : Int), a < ps.length → (rowCells ps).set (a * 5 + 4) (.int .i64 v) = rowCells (setImm ps a v)
  | [], a, v, h => by simp at h
  | x :: ps, 0, v, h => by
    unfold rowCells setImm
    rw [List.flatMap_cons]
    simp [insCells, List.modify]
  | x :: ps, a + 1, v, h => by
    have ih := rowCells_set ps a v (by simpa using h)
    unfold rowCells setImm at ih ⊢
    rw [List.flatMap_cons, List.set_append_right _ _ (by simp [insCells]; omega)]
    rw [show (a + 1) * 5 + 4 - (insCells x).length = a * 5 + 4 by simp [insCells]; omega, ih]
    simp [List.modify]
theorem jumpCells_get : ∀ (J : List (Nat × List UInt8 × Nat)) (k : Nat) (x : Nat × List UInt8 × Nat), J[k]? = some x → (jumpCells J)[k * 3]? = some (.int .i64 x.1) ∧ (jumpCells J)[k * 3 + 1]? = some (.string (mk x.2.1)) ∧ (jumpCells J)[k * 3 + 2]? = some (.int .i64 x.2.2)
  | [], k, x, h => by simp at h
  | y :: J, 0, x, h => by
    simp at h
    subst h
    unfold jumpCells
    rw [List.flatMap_cons]
    exact ⟨rfl, rfl, rfl⟩
  | y :: J, k + 1, x, h => by
    have ih := jumpCells_get J k x (by simpa using h)
    unfold jumpCells at ih ⊢
    rw [List.flatMap_cons]
    have e : ∀ j, ([.int .i64 y.1, .string (mk y.2.1), .int .i64 y.2.2] ++ J.flatMap (fun x => ([.int .i64 x.1, .string (mk x.2.1), .int .i64 x.2.2] : List Value)))[(k + 1) * 3 + j]? = (J.flatMap (fun x => ([.int .i64 x.1, .string (mk x.2.1), .int .i64 x.2.2] : List Value)))[k * 3 + j]? := fun j => by
      rw [List.getElem?_append_right (by simp; omega)]
      congr 1
      simp; omega
    exact ⟨(e 0).trans ih.1, (e 1).trans ih.2.1, (e 2).trans ih.2.2⟩
theorem resJ_drop {L : List (List UInt8 × Nat)} {J : List (Nat × List UInt8 × Nat)} {k : Nat} {x : Nat × List UInt8 × Nat} {ps : List (Int × Fields)} (h : J[k]? = some x) :
    resJ L (J.drop k) ps = match lookN L x.2.1 with | none => .err x.2.2 20 | some p => if p ≤ x.1 then .err x.2.2 20 else resJ L (J.drop (k + 1)) (setImm ps x.1 ((p : Int) - x.1 - 1)) := by
  obtain ⟨hk, e⟩ := List.getElem?_eq_some_iff.1 h
  rw [List.drop_eq_getElem_cons hk, e]
  rfl
def ResIs (B : Nat) (w : World) (g : Nat) (L : List (List UInt8 × Nat)) (J : List (Nat × List UInt8 × Nat)) (ps : List (Int × Fields)) (e : Ending) (w' : World) : Prop :=
  Below B w w' ∧ match resJ L J ps with | .ok ps' => e = .returned (.tuple #[.int .i64 0, .int .i64 0]) ∧ ∃ vp vj m, AsmAt B w' g ps' L J vp vj m | .err l er => er ≠ 0 ∧ e = .returned (.tuple #[.int .i64 l, .int .i64 er])
theorem ResIs.err {B : Nat} {w : World} {g : Nat} {L : List (List UInt8 × Nat)} {J : List (Nat × List UInt8 × Nat)} {ps : List (Int × Fields)} {w' : World} {l : Nat} (h : resJ L J ps = .err l 20) (hb : Below B w w') : ResIs B w g L J ps (.returned (.tuple #[.int .i64 l, .int .i64 20])) w' :=
  ⟨hb, by rw [h]; exact ⟨by decide, rfl⟩⟩
theorem ResIs.ok {B : Nat} {w : World} {g : Nat} {L : List (List UInt8 × Nat)} {J : List (Nat × List UInt8 × Nat)} {ps ps' : List (Int × Fields)} {w' : World} {vp vj : Value} {m : Nat} (h : resJ L J ps = .ok ps') (hb : Below B w w') (ha : AsmAt B w' g ps' L J vp vj m) : ResIs B w g L J ps (.returned (.tuple #[.int .i64 0, .int .i64 0])) w' :=
  ⟨hb, by rw [h]; exact ⟨rfl, vp, vj, m, ha⟩⟩
theorem a_resolve (B : Nat) (w : World) (g : Nat) (L : List (List UInt8 × Nat)) (J : List (Nat × List UInt8 × Nat)) (ps0 : List (Int × Fields)) (vp vj : Value) (m : Nat) (h : AsmAt B w g ps0 L J vp vj m) (hJ : J.length ≤ 1000) (hN : ps0.length ≤ 1000)
    (hx : ∀ x ∈ J, x.1 < ps0.length ∧ x.2.1.length ≤ 100000) (hL : ∀ n p, lookN L n = some p → p ≤ 100000) : Calls Tryz.prog 22 #[.pointer (some ⟨g, 0, none⟩)] w fun e w' => ResIs B w g L J ps0 e w' := by
  obtain ⟨Aj, cj, rfl, hcj1, hcj2⟩ := own_slice h.jumps
  obtain ⟨Ap, cp, rfl, hcp1, hcp2⟩ := own_slice h.prog
  have h2 : w.cell? ⟨g, 2, none⟩ = some (.slice Aj J.length cj) := h.mem.cell 2
  have HX := Lib.hid hx
  have HL := Lib.hid hL
  clear hx hL
  go_enter Tryz.func22, Tryz.ntmps22
  go_wp2
  clear h2
  go_loopw [13] (fun i wr => ∃ (k : Nat) (ps : List (Int × Fields)), k ≤ J.length ∧ i = .int .i64 k ∧ Hid (ps.length = ps0.length) ∧ AsmAt B wr g ps L J (.slice Ap ps0.length cp) (.slice Aj J.length cj) m ∧ Hid (resJ L J ps0 = resJ L (J.drop k) ps) ∧ Below B w wr) (fun i _ => J.length - (intOf i).toNat)
  case atStart => exact ⟨0, ps0, by omega, rfl, rfl, h, rfl, Below.refl _ _⟩
  case round =>
    obtain ⟨k, ps, hk, rfl, hpl, ha, hr, hb⟩ := hrel
    clear h
    by_cases hlt : k < J.length
    · obtain ⟨x, hxk⟩ : ∃ x, J[k]? = some x := ⟨J[k], List.getElem?_eq_getElem hlt⟩
      obtain ⟨hxa, hxt⟩ := HX.out x (List.mem_of_getElem? hxk)
      have hst := Lib.hid (hr.out.trans (resJ_drop hxk))
      obtain ⟨gj, capj, curj, ej, hgj, hmj, hgjl, hcj⟩ := own_cells ha.jumps (by omega)
      injection ej with ej1 ej2 ej3
      subst ej1 ej3
      obtain ⟨c0, c1, c2⟩ := jumpCells_get J k x hxk
      have d0 := (hcj (k * 3) (by omega)).trans c0
      have d1 := (hcj (k * 3 + 1) (by omega)).trans c1
      have d2 := (hcj (k * 3 + 2) (by omega)).trans c2
      have hbW := hb.alloc ha.size (.cells #[.int .i64 x.1, .string (mk x.2.1), .int .i64 x.2.2] 96)
      have haW := ha.alloc (.cells #[.int .i64 x.1, .string (mk x.2.1), .int .i64 x.2.2] 96)
      have h1 : wr.cell? ⟨g, 1, none⟩ = some (.map (some m)) := ha.mem.cell 1
      have hgl := ha.mem.lt
      obtain ⟨xa, xt, xl⟩ := x
      simp only at *
      have HK := Lib.hid hxk
      clear hr hcj c0 c1 c2 hxk
      cases hlk : lookN L xt with
      | none =>
        have hrun := haW.drew.labels.miss_int (t := 45) keyed_s Tryz.underlying45 Tryz.underlying3 (zero_int _) (key_of xt hxt) trivial (by unfold labC; simp only; rw [hlk]; rfl)
        have hst2 := Lib.hid (show resJ L J ps0 = .err xl 20 by rw [hst.out, hlk])
        clear hlk hst haW
        go_wp2
        go_region
        all_goals
          go_wp2
          go_ret2
          exact ResIs.err hst2.out (below_drewN hbW 1)
      | some p =>
        have hrun := haW.drew.labels.hit_int (t := 45) keyed_s Tryz.underlying45 Tryz.underlying3 (zero_int _) (key_of xt hxt) trivial (c := (p : Int)) (by unfold labC; simp only; rw [hlk]; rfl)
        have hp := HL.out _ _ hlk
        by_cases hpa : p ≤ xa
        · have hst2 := Lib.hid (show resJ L J ps0 = .err xl 20 by rw [hst.out, hlk]; simp only; rw [if_pos hpa])
          clear hlk hst haW
          go_wp2
          go_region
          all_goals
            go_wp2
            go_ret2
            exact ResIs.err hst2.out (below_drewN hbW 1)
        · have hst2 := Lib.hid (show resJ L J ps0 = resJ L (J.drop (k + 1)) (setImm ps xa ((p : Int) - xa - 1)) by rw [hst.out, hlk]; simp only; rw [if_neg hpa])
          have hpp := hpl.out
          obtain ⟨gp, capp, curp, ep, hgp, hmp, hgpl, hcp⟩ := own_cells ha.prog (by omega)
          have haP := haW.prog
          have haQ := ha.prog
          rw [hpp] at haP haQ ep
          injection ep with ep1 ep2 ep3
          subst ep1 ep3
          have hold := hcp (xa * 5 + 4) (by omega)
          rw [rowCells_get ps xa 4 (by omega) (by omega)] at hold
          have hold2 : wr.cell? ⟨gp, xa * 5 + 4, none⟩ = some (.int .i64 (ps.getD xa (0, ⟨0, 0, 0, 0⟩)).2.i) := hold
          have hfz : wr.frozen? ⟨gp, xa * 5 + 4, none⟩ = false := haQ.frozenAt (xa * 5 + 4)
          have hgpg : gp ≠ g := fun e => own_ne_mem haW.prog haW.mem (by decide) (by rw [e]; rfl)
          have hgpm : m ≠ gp := fun e => own_ne_map haW.prog haW.labels (by rw [e]; rfl)
          have hgpj : gj ≠ gp := fun e => by
            rcases own_ne_own haW.jumps haW.prog (by decide) with h0 | h0
            · cases h0
            · exact h0 (by rw [e]; rfl)
          have h0 : wr.cell? ⟨g, 0, none⟩ = some (.slice (some ⟨gp, 0, none⟩) ps0.length cp) := ha.mem.cell 0
          have key : ∀ v, AsmAt B (wr.setCell ⟨gp, xa * 5 + 4, none⟩ (.int .i64 v)) g (setImm ps xa v) L J (.slice (some ⟨gp, 0, none⟩) ps0.length cp) (.slice (some ⟨gj, 0, none⟩) J.length cj) m := fun v => by
            refine ⟨ha.hg, ha.hm, ha.mem.far hgpg.symm _, ?_, ha.labels.setCell hgpm _, own_far ha.jumps (by simp [Value.ownBlock]; exact hgpj) _⟩
            have hst := (haQ.stored (xa * 5 + 4) (.int .i64 v)).1
            rw [rowCells_set ps xa v (by omega)] at hst
            rw [setImm_length, hpp]
            exact hst
          have hb2 := fun v => hb.setCell (p := ⟨gp, xa * 5 + 4, none⟩) hgp (.int .i64 v)
          have hpl2 := Lib.hid ((setImm_length ps xa ((p : Int) - xa - 1)).trans hpp)
          have haN : xa < ps0.length := hxa
          clear hlk hst haW haP haQ hold hcp hpp
          go_wp2
          go_region
          all_goals
            go_wp2
            go_region
            all_goals
              go_wp2
              go_roundw
              case rel => exact ⟨k + 1, setImm ps xa ((p : Int) - xa - 1), by omega, by go_num, hpl2, ((key _).alloc _).drew.drew, hst2, below_drewN ((hb2 _).alloc (key _).size _) 2⟩
              case measure => simp [intOf]; omega
    · have hst := Lib.hid (show resJ L J ps0 = .ok ps by rw [hr.out, List.drop_eq_nil_of_le (by omega)]; rfl)
      clear hr
      go_wp2
      go_ret2
      exact ResIs.ok hst.out hb ha

/-! ### Assemble. -/
theorem modify_at {α : Type} (f : α → α) (x : α) (r : List α) : ∀ pre : List α, (pre ++ x :: r).modify pre.length f = pre ++ f x :: r
  | [] => rfl
  | p :: pre => by
    have := modify_at f x r pre
    rw [List.cons_append, List.length_cons, List.modify_succ_cons, this]
    rfl
theorem resJ_items (L : List (List UInt8 × Nat)) : ∀ (items : List AItem) (pre : List (Int × Fields)), resJ L (jumpsOf pre.length items) (pre ++ items.map insOfItem) = match setTargets L pre.length items with | .ok ps => .ok (pre ++ ps) | .err l e => .err l e
  | [], pre => by simp [jumpsOf, resJ, setTargets]
  | x :: items, pre => by
    have ih := fun y => resJ_items L items (pre ++ [y])
    simp only [List.length_append, List.length_singleton, List.append_assoc, List.singleton_append] at ih
    unfold jumpsOf setTargets
    by_cases ht : x.t = []
    · rw [if_pos ht, if_pos ht, List.map_cons, show insOfItem x = (x.k, x.q) from rfl, ih]
      cases setTargets L (pre.length + 1) items with
      | ok ps => rfl
      | err l e => rfl
    · rw [if_neg ht, if_neg ht]
      unfold resJ
      simp only
      cases hl : lookN L x.t with
      | none => rfl
      | some p =>
        simp only
        by_cases hp : p ≤ pre.length
        · rw [if_pos hp, if_pos hp]
        · rw [if_neg hp, if_neg hp]
          have e : setImm (pre ++ (x :: items).map insOfItem) pre.length ((p : Int) - pre.length - 1) = pre ++ (x.k, { x.q with i := (p : Int) - pre.length - 1 }) :: items.map insOfItem := by
            unfold setImm
            rw [List.map_cons, modify_at]
            rfl
          rw [e, ih]
          cases setTargets L (pre.length + 1) items with
          | ok ps => rfl
          | err l e => rfl
/-- What a state satisfies. -/
def StOk (st : St) : Prop := st.items.length ≤ 64 ∧ (∀ x ∈ st.items, x.t.length ≤ 20) ∧ ∀ y ∈ st.labels, y.2 ≤ 64
theorem stepL_ok {st st' : St} {n : Nat} {s : List UInt8} (h : StOk st) (hs : stepL st n s = .ok st') : StOk st' ∧ st'.labels.length ≤ st.labels.length + 1 := by
  unfold stepL at hs
  cases hk : kind (mk (bareL s)) with
  | empty =>
    rw [hk] at hs
    injection hs with hs
    subst hs
    exact ⟨h, by omega⟩
  | label x =>
    rw [hk] at hs
    simp only at hs
    split at hs
    · cases hs
    · injection hs with hs
      subst hs
      refine ⟨⟨h.1, h.2.1, fun y hy => ?_⟩, by simp⟩
      rcases List.mem_append.1 hy with hy | hy
      · exact h.2.2 y hy
      · rw [List.mem_singleton] at hy
        rw [hy]
        exact h.1
  | ins k q t =>
    rw [hk] at hs
    simp only at hs
    split at hs
    · cases hs
    · rename_i h64
      injection hs with hs
      subst hs
      have h1 := h.1
      refine ⟨⟨?_, fun y hy => ?_, h.2.2⟩, by simp⟩
      · show (st.items ++ [_]).length ≤ 64
        rw [List.length_append, List.length_singleton]; omega
      · rcases List.mem_append.1 hy with hy | hy
        · exact h.2.1 y hy
        · rw [List.mem_singleton] at hy
          rw [hy]
          unfold kind at hk
          split at hk
          · cases hk
          · split at hk
            · cases hk
            · split at hk
              · rename_i hj
                injection hk with _ _ hk
                rw [← hk]
                exact (isName_all (jump_name hj)).2.1
              · split at hk
                · injection hk with _ _ hk
                  rw [← hk]; simp
                · cases hk
  | bad e => rw [hk] at hs; cases hs
theorem lookN_mem {L : List (List UInt8 × Nat)} {n : List UInt8} {p : Nat} (h : lookN L n = some p) : ∃ y ∈ L, y.2 = p := by
  unfold lookN at h
  cases hf : L.find? (fun x => x.1 == n) with
  | none => rw [hf] at h; cases h
  | some y =>
    rw [hf, Option.map_some] at h
    injection h with h
    exact ⟨y, List.mem_of_find?_eq_some hf, h⟩
theorem jumpsOf_mem : ∀ (items : List AItem) (a : Nat) (x : Nat × List UInt8 × Nat), x ∈ jumpsOf a items → a ≤ x.1 ∧ x.1 < a + items.length ∧ ∃ y ∈ items, y.t = x.2.1
  | [], _, _, h => by cases h
  | y :: items, a, x, h => by
    unfold jumpsOf at h
    split at h
    · obtain ⟨h1, h2, z, hz, e⟩ := jumpsOf_mem items (a + 1) x h
      rw [List.length_cons]
      exact ⟨by omega, by omega, z, by simp [hz], e⟩
    · rcases List.mem_cons.1 h with rfl | h
      · rw [List.length_cons]
        exact ⟨Nat.le_refl _, by simp, y, by simp, rfl⟩
      · obtain ⟨h1, h2, z, hz, e⟩ := jumpsOf_mem items (a + 1) x h
        rw [List.length_cons]
        exact ⟨by omega, by omega, z, by simp [hz], e⟩
theorem readAll_drop {P : List (List UInt8)} {k : Nat} {s : List UInt8} {st : St} (h : P[k]? = some s) : readAll (P.drop k) (k + 1) st = match stepL st (k + 1) s with | .ok st' => readAll (P.drop (k + 1)) (k + 2) st' | .err l e => .err l e := by
  obtain ⟨hk, e⟩ := List.getElem?_eq_some_iff.1 h
  rw [List.drop_eq_getElem_cons hk, e]
  rfl
theorem stepL_line {st : St} {n l : Nat} {s : List UInt8} {er : Int} (h : stepL st n s = .err l er) : l = n := by
  unfold stepL at h
  cases hk : kind (mk (bareL s)) with
  | empty => rw [hk] at h; cases h
  | label x =>
    rw [hk] at h
    simp only at h
    split at h
    · injection h with h _; exact h.symm
    · cases h
  | ins k q t =>
    rw [hk] at h
    simp only at h
    split at h
    · injection h with h _; exact h.symm
    · cases h
  | bad e =>
    rw [hk] at h
    injection h with h _; exact h.symm
/-- The lines that Split makes. -/
theorem split_lines (s : ByteArray) : (Lib.splitB ⟨#[10]⟩ 0 (Lib.countB s ⟨#[10]⟩) s).map bts = pieces (bts s) ∧ (Lib.splitB ⟨#[10]⟩ 0 (Lib.countB s ⟨#[10]⟩) s).length = Lib.countB s ⟨#[10]⟩ + 1 := by
  refine ⟨?_, Lib.splitB_all _ (by decide) 0 _ s rfl⟩
  have h1 := Lib.splitB_data ⟨#[10]⟩ 0 (Lib.countB s ⟨#[10]⟩) s
  rw [show (⟨#[10]⟩ : ByteArray).data.toList = [10] from rfl] at h1
  have h2 : Lib.countB s ⟨#[10]⟩ = Lib.count (bts s) [10] := rfl
  rw [← split_pieces]
  unfold Lib.split
  rw [← h2]
  exact h1
end Go.Proofs.YtcplhochgngedaaGreatDoor.AsmE
