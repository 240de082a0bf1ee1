/-
  Machines of the program and of the reference that take turns side by side under a schedule: what holds of cells and boxes.
-/
import Derived.Test.YtpdmmblcjidekaaTurB
namespace Go.Proofs.Ytpdmmblcjidekaa.TurD
open Go.ChangeShapes Go.WideShapes Go.ChangeAt Go.RowKit
open PlainT BlkW LayS LayA CelS CelM CelP CelV CelN CelO CelI CelY CelF LabD LabR LabP LabS TurA TurB
set_option linter.unusedVariables false
set_option maxHeartbeats 1000000

abbrev TA : TypeId := 88
abbrev TB : TypeId := 90
abbrev TQ : TypeId := 94
abbrev qBox (st : Nat) (k : Int) : Array Value := #[.int .i64 k, .bool (st == 2)]
/-- A thread: none, or its two machines' boxes, their state and ticket. -/
abbrev Th := Option (Nat × Nat × Nat × Int)
def pa (o : Th) : Value := match o with | none => .pointer none | some (x, _, _, _) => .pointer (some ⟨x, 0, none⟩)
def pb (o : Th) : Value := match o with | none => .pointer none | some (_, y, _, _) => .pointer (some ⟨y, 0, none⟩)
def up (p : Nat → Th) (t : Nat) (o : Th) : Nat → Th := fun j => if j = t then o else p j
theorem up_at (p : Nat → Th) (t : Nat) (o : Th) : up p t o t = o := if_pos rfl
theorem up_ne {p : Nat → Th} {t j : Nat} {o : Th} (h : j ≠ t) : up p t o j = p j := if_neg h
abbrev aBox (p : Nat → Th) : Array Value := #[pa (p 0), pa (p 1), pa (p 2), pa (p 3)]
abbrev bBox (p : Nat → Th) : Array Value := #[pb (p 0), pb (p 1), pb (p 2), pb (p 3)]
theorem aBox_up (p : Nat → Th) {t : Nat} (ht : t ≤ 3) (o : Th) : aBox (up p t o) = (aBox p).setIfInBounds t (pa o) := by
  have : t = 0 ∨ t = 1 ∨ t = 2 ∨ t = 3 := by omega
  rcases this with rfl | rfl | rfl | rfl <;> simp [aBox, up]
theorem bBox_up (p : Nat → Th) {t : Nat} (ht : t ≤ 3) (o : Th) : bBox (up p t o) = (bBox p).setIfInBounds t (pb o) := by
  have : t = 0 ∨ t = 1 ∨ t = 2 ∨ t = 3 := by omega
  rcases this with rfl | rfl | rfl | rfl <;> simp [bBox, up]
theorem aBox_same (p : Nat → Th) {t x y st st' : Nat} {k k' : Int} (hp : p t = some (x, y, st, k)) : aBox (up p t (some (x, y, st', k'))) = aBox p := by
  have h : ∀ j, pa (up p t (some (x, y, st', k')) j) = pa (p j) := by
    intro j
    by_cases e : j = t
    · subst e
      rw [up_at, hp]
      rfl
    · rw [up_ne e]
  simp [aBox, h]
theorem bBox_same (p : Nat → Th) {t x y st st' : Nat} {k k' : Int} (hp : p t = some (x, y, st, k)) : bBox (up p t (some (x, y, st', k'))) = bBox p := by
  have h : ∀ j, pb (up p t (some (x, y, st', k')) j) = pb (p j) := by
    intro j
    by_cases e : j = t
    · subst e
      rw [up_at, hp]
      rfl
    · rw [up_ne e]
  simp [bBox, h]
theorem aBox_at (p : Nat → Th) {w : World} {ga t : Nat} (h : Mem w ga TA (aBox p)) (h3 : t ≤ 3) : w.cell? ⟨ga, t, none⟩ = some (pa (p t)) := by
  have : t = 0 ∨ t = 1 ∨ t = 2 ∨ t = 3 := by omega
  rcases this with rfl | rfl | rfl | rfl
  · exact h.cell 0
  · exact h.cell 1
  · exact h.cell 2
  · exact h.cell 3
theorem bBox_at (p : Nat → Th) {w : World} {gb t : Nat} (h : Mem w gb TB (bBox p)) (h3 : t ≤ 3) : w.cell? ⟨gb, t, none⟩ = some (pb (p t)) := by
  have : t = 0 ∨ t = 1 ∨ t = 2 ∨ t = 3 := by omega
  rcases this with rfl | rfl | rfl | rfl
  · exact h.cell 0
  · exact h.cell 1
  · exact h.cell 2
  · exact h.cell 3
def okF (T : Int) (o : Th) : Prop := match o with
  | none => True
  | some (_, _, st, k) => (st = 0 ∧ k = -1) ∨ (1 ≤ st ∧ st ≤ 2 ∧ 0 ≤ k ∧ k < T)
theorem okF_grow {T T' : Int} {o : Th} (h : okF T o) (k : T ≤ T') : okF T' o := by
  match o, h with
  | none, _ => trivial
  | some (_, _, st, c), h =>
    have h : _ ∨ _ := h
    show _ ∨ _
    omega
def diF (o o' : Th) : Prop := match o, o' with
  | some (x, y, _, _), some (x', y', _, _) => x ≠ x' ∧ y ≠ y' ∧ x ≠ y' ∧ y ≠ x'
  | _, _ => True
theorem diF_comm {o o' : Th} (h : diF o o') : diF o' o := by
  match o, o', h with
  | none, none, _ => trivial
  | none, some _, _ => trivial
  | some _, none, _ => trivial
  | some (x, y, st, k), some (x', y', st', k'), h => exact ⟨fun e => h.1 e.symm, fun e => h.2.1 e.symm, fun e => h.2.2.2 e.symm, fun e => h.2.2.1 e.symm⟩
structure TF (w0 : World) (lo hi b rb : Nat) (q : Cfg) (gp ga gb : Nat) (T S : Int) (p : Nat → Th) (w : World) : Prop where
  duo : ∃ A, Duo lo hi w b rb q A A ∧ A 4 = [T] ∧ A 5 = [S]
  old : Below w0.heap.size w0 w
  pm : Mem w gp TP #[.pointer (some ⟨b, 0, none⟩), .pointer (some ⟨rb, 0, none⟩)]
  ar : Mem w ga TA (aBox p)
  br : Mem w gb TB (bBox p)
  en : ∀ t, t ≤ 3 → ∀ x y st k, p t = some (x, y, st, k) → Mem w x TT (tBox st k) ∧ Mem w y TQ (qBox st k) ∧ gb < x ∧ gb < y ∧ x ≠ y
  ok : ∀ t, t ≤ 3 → okF T (p t)
  di : ∀ t u, t ≤ 3 → u ≤ 3 → t ≠ u → diF (p t) (p u)
  st : w0.heap.size ≤ lo ∧ lo ≤ hi ∧ hi ≤ gp ∧ gp < ga ∧ ga < gb
  cl : 0 ≤ S ∧ S ≤ 2000 ∧ 0 ≤ T ∧ T ≤ 2000
/-- What a region of the statement holds beside the machines. -/
def HX (b rb gp ga gb : Nat) (p : Nat → Th) (w : World) : Prop := Mem w gp TP #[.pointer (some ⟨b, 0, none⟩), .pointer (some ⟨rb, 0, none⟩)] ∧ Mem w ga TA (aBox p) ∧ Mem w gb TB (bBox p)
abbrev SX (b rb gp ga gb t x y : Nat) (p : Nat → Th) (w : World) : Prop := w.cell? ⟨gp, 0, none⟩ = some (.pointer (some ⟨b, 0, none⟩)) ∧ w.cell? ⟨gp, 1, none⟩ = some (.pointer (some ⟨rb, 0, none⟩)) ∧ w.cell? ⟨ga, t, none⟩ = some (.pointer (some ⟨x, 0, none⟩)) ∧ w.cell? ⟨gb, t, none⟩ = some (.pointer (some ⟨y, 0, none⟩)) ∧ HX b rb gp ga gb p w
/-- Besides the fields of the reference's machine. -/
abbrev SY (b rb gp ga gb t x y : Nat) (p : Nat → Th) (st : Nat) (h2 : Bool) (k : Int) (w : World) : Prop := w.cell? ⟨y, 0, none⟩ = some (.int .i64 k) ∧ w.cell? ⟨y, 1, none⟩ = some (.bool h2) ∧ w.cell? ⟨gp, 0, none⟩ = some (.pointer (some ⟨b, 0, none⟩)) ∧ w.cell? ⟨gp, 1, none⟩ = some (.pointer (some ⟨rb, 0, none⟩)) ∧ w.cell? ⟨ga, t, none⟩ = some (.pointer (some ⟨x, 0, none⟩)) ∧ w.cell? ⟨gb, t, none⟩ = some (.pointer (some ⟨y, 0, none⟩)) ∧ HX b rb gp ga gb p w ∧ Hid (Mem w y TQ (qBox st k))
section
variable {w0 w w' : World} {lo hi b rb gp ga gb t x y st : Nat} {q : Cfg} {T S k : Int} {p : Nat → Th} {P : Nat → Prop}
theorem sx_of (h : HX b rb gp ga gb p w) (h3 : t ≤ 3) (hp : p t = some (x, y, st, k)) : SX b rb gp ga gb t x y p w :=
  ⟨h.1.cell 0, h.1.cell 1, by rw [aBox_at p h.2.1 h3, hp]; rfl, by rw [bBox_at p h.2.2 h3, hp]; rfl, h⟩
theorem HX.fr (h : HX b rb gp ga gb p w) (k : Fr P w w') (h0 : ¬ P gp) (h1 : ¬ P ga) (h2 : ¬ P gb) : HX b rb gp ga gb p w' := ⟨mem_fr h.1 k h0, mem_fr h.2.1 k h1, mem_fr h.2.2 k h2⟩
theorem sy_of (h : HX b rb gp ga gb p w) (hm : Mem w y TQ (qBox st k)) (h3 : t ≤ 3) (hp : p t = some (x, y, st, k)) {h2 : Bool} (e2 : (st == 2) = h2) : SY b rb gp ga gb t x y p st h2 k w :=
  have s := sx_of h h3 hp
  ⟨hm.cell 0, by rw [← e2]; exact hm.cell 1, s.1, s.2.1, s.2.2.1, s.2.2.2.1, h, Lib.hid hm⟩
theorem TF.hx (h : TF w0 lo hi b rb q gp ga gb T S p w) : HX b rb gp ga gb p w := ⟨h.pm, h.ar, h.br⟩
theorem TF.below (h : TF w0 lo hi b rb q gp ga gb T S p w) (k : Below w.heap.size w w') : TF w0 lo hi b rb q gp ga gb T S p w' := by
  obtain ⟨A, hd, h4⟩ := h.duo
  exact ⟨⟨A, hd.below k, h4⟩, h.old.trans (k.mono h.old.size), h.pm.below k h.pm.lt, h.ar.below k h.ar.lt, h.br.below k h.br.lt, fun t h3 x y st c hp => have e := h.en t h3 x y st c hp; ⟨e.1.below k e.1.lt, e.2.1.below k e.2.1.lt, e.2.2⟩, h.ok, h.di, h.st, h.cl⟩
theorem TF.drew (h : TF w0 lo hi b rb q gp ga gb T S p w) : TF w0 lo hi b rb q gp ga gb T S p w.drew := h.below (below_drewN (Below.refl _ w) 1)
/-- One step of both machines of a thread: what it answers, what it leaves. -/
theorem tf_plan (h : TF w0 lo hi b rb q gp ga gb T S p w) (h3 : t ≤ 3) (hp : p t = some (x, y, st, k)) (hst : st ≤ 1) : ∃ (A A' : Int → List Int) (k1 k2 k3 k4 k5 : Int) (d : Bool) (st' : Nat) (k' T' : Int), Duo lo hi w b rb q A A ∧
    (∀ W, Duo lo hi W b rb q A A → Mem W x TT (tBox st k) → Calls Try.prog 58 #[.pointer (some ⟨x, 0, none⟩), .pointer (some ⟨b, 0, none⟩)] W fun e w' => e = .returned (accV k1 k2 k3 k4 k5 d) ∧ Duo lo hi w' b rb q A' A ∧ Mem w' x TT (tBox st' k') ∧ Fr (PG lo hi x) W w') ∧
    (∀ W, Duo lo hi W b rb q A' A → Mem W y TQ (qBox st k) → Calls Try.prog 59 #[.pointer (some ⟨y, 0, none⟩), .pointer (some ⟨rb, 0, none⟩)] W fun e w' => e = .returned (accV k1 k2 k3 k4 k5 d) ∧ Duo lo hi w' b rb q A' A' ∧ Mem w' y TQ (qBox st' k') ∧ Fr (PG lo hi y) W w') ∧
    A' 4 = [T'] ∧ A' 5 = [S] ∧ T ≤ T' ∧ T' ≤ T + 1 ∧ okF T' (some (x, y, st', k')) := by
  have hs := h.st
  have hcl := h.cl
  obtain ⟨M, M2, hx, hy, hxy⟩ := h.en t h3 x y st k hp
  have hok := h.ok t h3
  rw [hp] at hok
  have hok : _ ∨ _ := hok
  obtain ⟨A, hd, h4, h5⟩ := h.duo
  have hgx : x < lo ∨ hi ≤ x := .inr (by omega)
  have hgy : y < lo ∨ hi ≤ y := .inr (by omega)
  have hl4 : 0 < (A 4).length := by rw [h4]; exact Nat.zero_lt_one
  have hl5 : 0 < (A 5).length := by rw [h5]; exact Nat.zero_lt_one
  by_cases h0 : st = 0
  · subst h0
    obtain rfl : k = -1 := by omega
    refine ⟨A, upd A 4 0 (T + 1), 4, 4, 0, T, T + 1, true, 1, T, T + 1, hd, fun W hW hM => ?_, fun W hW hM => ?_, by simp [upd, h4], by simp [upd, h5], by omega, by omega, .inr ⟨by omega, by omega, by omega, by omega⟩⟩
    · exact t_step0 hW hgx (-1) T hl4 (by rw [h4]; rfl) (by omega) (by omega) hM
    · exact s_step0 hW hgy T hl4 (by rw [h4]; rfl) (by omega) (by omega) hM
  · obtain rfl : st = 1 := by omega
    refine ⟨A, A, 1, 5, 0, S, S, true, (if S = k then 2 else 1), k, T, hd, fun W hW hM => ?_, fun W hW hM => ?_, h4, h5, by omega, by omega, .inr ⟨by split <;> omega, by split <;> omega, by omega, by omega⟩⟩
    · by_cases e : S = k
      · rw [if_pos e]
        exact t_step1_yes hW hgx k (by omega) (by omega) S hl5 (by rw [h5]; rfl) (by simpa using e) hM
      · rw [if_neg e]
        exact t_step1_no hW hgx k (by omega) (by omega) S hl5 (by rw [h5]; rfl) (by simpa using e) hM
    · refine (s_step1 hW hgy k (by omega) (by omega) S hl5 (by rw [h5]; rfl) hM).mono ?_
      rintro e w' ⟨he, hD, hM, hF⟩
      have e2 : (S == k) = ((if S = k then 2 else 1) == 2) := by
        by_cases e : S = k
        · rw [if_pos e, e]
          simp
        · rw [if_neg e]
          simpa using e
      rw [e2] at hM
      exact ⟨he, hD, hM, hF⟩
theorem up_di {o : Th} (ht : t ≤ 3) (h : ∀ t u, t ≤ 3 → u ≤ 3 → t ≠ u → diF (p t) (p u)) (ho : ∀ u, u ≤ 3 → u ≠ t → diF o (p u)) : ∀ x u, x ≤ 3 → u ≤ 3 → x ≠ u → diF (up p t o x) (up p t o u) := by
  intro x u hx hu hne
  by_cases e1 : x = t
  · subst e1
    rw [up_at, up_ne (Ne.symm hne)]
    exact ho u hu (Ne.symm hne)
  · rw [up_ne e1]
    by_cases e2 : u = t
    · subst e2
      rw [up_at]
      exact diF_comm (ho x hx e1)
    · rw [up_ne e2]
      exact h x u hx hu hne
/-- Blocks lo to hi and the two machines' boxes. -/
def P2 (lo hi x y : Nat) (g : Nat) : Prop := (lo ≤ g ∧ g < hi) ∨ g = x ∨ g = y
theorem tf_stepped (h : TF w0 lo hi b rb q gp ga gb T S p w) (h3 : t ≤ 3) (hp : p t = some (x, y, st, k)) {A' : Int → List Int} {st' : Nat} {k' T' : Int} (hd : Duo lo hi w' b rb q A' A') (hx : Mem w' x TT (tBox st' k')) (hy : Mem w' y TQ (qBox st' k')) (hF : Fr (P2 lo hi x y) w w')
    (h4 : A' 4 = [T']) (h5 : A' 5 = [S]) (hT : T ≤ T') (hT2 : T' ≤ T + 1) (hT3 : T < 2000) (hok : okF T' (some (x, y, st', k'))) : TF w0 lo hi b rb q gp ga gb T' S (up p t (some (x, y, st', k'))) w' := by
  have hs := h.st
  have hcl := h.cl
  obtain ⟨_, _, gx, gy, hxy⟩ := h.en t h3 x y st k hp
  refine ⟨⟨A', hd, h4, h5⟩, hF.after h.old (fun g hg => by unfold P2 at hg; omega) (Nat.le_refl _), mem_fr h.pm hF (by unfold P2; omega), (aBox_same p hp) ▸ mem_fr h.ar hF (by unfold P2; omega), (bBox_same p hp) ▸ mem_fr h.br hF (by unfold P2; omega), fun u h3' x' y' st'' k'' hq => ?_, fun u h3' => ?_, up_di h3 h.di (fun u hu hne => ?_), hs, by omega⟩
  · by_cases e : u = t
    · subst e
      rw [up_at] at hq
      injection hq with hq
      injection hq with e1 hq
      injection hq with e2 hq
      injection hq with e3 e4
      subst e1 e2 e3 e4
      exact ⟨hx, hy, gx, gy, hxy⟩
    · rw [up_ne e] at hq
      obtain ⟨m1, m2, l1, l2, l3⟩ := h.en u h3' x' y' st'' k'' hq
      have h2 := h.di u t h3' h3 e
      rw [hq, hp] at h2
      obtain ⟨n1, n2, n3, n4⟩ := h2
      exact ⟨mem_fr m1 hF (by unfold P2; omega), mem_fr m2 hF (by unfold P2; omega), l1, l2, l3⟩
  · by_cases e : u = t
    · subst e
      rw [up_at]
      exact hok
    · rw [up_ne e]
      exact okF_grow (h.ok u h3') hT
  · have h2 := h.di t u h3 hu (Ne.symm hne)
    rw [hp] at h2
    revert h2
    cases p u with
    | none => exact fun _ => trivial
    | some z => exact id
theorem tf_new (h : TF w0 lo hi b rb q gp ga gb T S p w) (h3 : t ≤ 3) (hp : p t = none) {W : World} (hW : W = (((w.alloc (.cells #[.int .i64 0, .int .i64 (-1)] TT)).alloc (.cells #[.int .i64 (-1), .bool false] TQ)).setCell ⟨ga, t, none⟩ (.pointer (some ⟨w.heap.size, 0, none⟩))).setCell ⟨gb, t, none⟩ (.pointer (some ⟨w.heap.size + 1, 0, none⟩))) :
    TF w0 lo hi b rb q gp ga gb T S (up p t (some (w.heap.size, w.heap.size + 1, 0, -1))) W := by
  subst hW
  have hs := h.st
  have hcl := h.cl
  have hgb := h.br.lt
  have hF : Fr (fun g => g = ga ∨ g = gb) w ((((w.alloc (.cells #[.int .i64 0, .int .i64 (-1)] TT)).alloc (.cells #[.int .i64 (-1), .bool false] TQ)).setCell ⟨ga, t, none⟩ (.pointer (some ⟨w.heap.size, 0, none⟩))).setCell ⟨gb, t, none⟩ (.pointer (some ⟨w.heap.size + 1, 0, none⟩))) :=
    ((((Fr.refl (fun g => g = ga ∨ g = gb) w).alloc _).alloc _).set_ ⟨ga, t, none⟩ (.inl (.inl rfl)) _).set_ ⟨gb, t, none⟩ (.inl (.inr rfl)) _
  have hn1 := ((((Mem.new w TT (tBox 0 (-1))).alloc (.cells #[.int .i64 (-1), .bool false] TQ)).far (a := ⟨ga, t, none⟩) (by show w.heap.size ≠ ga; omega) (.pointer (some ⟨w.heap.size, 0, none⟩))).far (a := ⟨gb, t, none⟩) (by show w.heap.size ≠ gb; omega) (.pointer (some ⟨w.heap.size + 1, 0, none⟩)))
  have hm2 := Mem.new (w.alloc (.cells #[.int .i64 0, .int .i64 (-1)] TT)) TQ (qBox 0 (-1))
  rw [size_new] at hm2
  have hn2 := (hm2.far (a := ⟨ga, t, none⟩) (by show w.heap.size + 1 ≠ ga; omega) (.pointer (some ⟨w.heap.size, 0, none⟩))).far (a := ⟨gb, t, none⟩) (by show w.heap.size + 1 ≠ gb; omega) (.pointer (some ⟨w.heap.size + 1, 0, none⟩))
  obtain ⟨A, hd, h4⟩ := h.duo
  refine ⟨⟨A, hd.fr hF (fun g a c e => by omega), h4⟩, hF.after h.old (fun g e => by omega) (Nat.le_refl _), mem_fr h.pm hF (by omega), ?_, ?_, fun u h3' x y st v hq => ?_, fun u h3' => ?_, up_di h3 h.di (fun u hu hne => ?_), hs, hcl⟩
  · rw [aBox_up p h3]
    exact (((h.ar.alloc (.cells #[.int .i64 0, .int .i64 (-1)] TT)).alloc (.cells #[.int .i64 (-1), .bool false] TQ)).set_ t (.pointer (some ⟨w.heap.size, 0, none⟩))).far (a := ⟨gb, t, none⟩) (by show ga ≠ gb; omega) _
  · rw [bBox_up p h3]
    exact (((h.br.alloc (.cells #[.int .i64 0, .int .i64 (-1)] TT)).alloc (.cells #[.int .i64 (-1), .bool false] TQ)).far (a := ⟨ga, t, none⟩) (by show gb ≠ ga; omega) _).set_ t (.pointer (some ⟨w.heap.size + 1, 0, none⟩))
  · by_cases e : u = t
    · subst e
      rw [up_at] at hq
      injection hq with hq
      injection hq with e1 hq
      injection hq with e2 hq
      injection hq with e3 e4
      subst e1 e2 e3 e4
      exact ⟨hn1, hn2, hgb, by omega, by omega⟩
    · rw [up_ne e] at hq
      obtain ⟨m1, m2, l1, l2, l3⟩ := h.en u h3' x y st v hq
      exact ⟨mem_fr m1 hF (by omega), mem_fr m2 hF (by omega), l1, l2, l3⟩
  · by_cases e : u = t
    · subst e
      rw [up_at]
      exact .inl ⟨rfl, rfl⟩
    · rw [up_ne e]
      exact h.ok u h3'
  · cases hq : p u with
    | none => trivial
    | some z =>
      obtain ⟨x, y, c, d⟩ := z
      obtain ⟨m1, m2, _⟩ := h.en u hu x y c d hq
      have := m1.lt
      have := m2.lt
      exact ⟨by omega, by omega, by omega, by omega⟩
/-- Both machines of a thread have passed their ticket on. -/
theorem tf_passed (h : TF w0 lo hi b rb q gp ga gb T S p w) (h3 : t ≤ 3) (hp : p t = some (x, y, st, k)) {A' : Int → List Int} (hd : Duo lo hi w' b rb q A' A') (hF : Fr (P2 lo hi x y) w w') (h4 : A' 4 = [T]) (h5 : A' 5 = [k + 1]) (hk : 0 ≤ k ∧ k < T) :
    TF w0 lo hi b rb q gp ga gb T (k + 1) (up p t none) ((w'.setCell ⟨ga, t, none⟩ (.pointer none)).setCell ⟨gb, t, none⟩ (.pointer none)) := by
  have hs := h.st
  have hcl := h.cl
  obtain ⟨_, _, gx, gy, hxy⟩ := h.en t h3 x y st k hp
  have hF2 : Fr (fun g => g = ga ∨ g = gb) w' ((w'.setCell ⟨ga, t, none⟩ (.pointer none)).setCell ⟨gb, t, none⟩ (.pointer none)) := ((Fr.refl (fun g => g = ga ∨ g = gb) w').set_ ⟨ga, t, none⟩ (.inl (.inl rfl)) _).set_ ⟨gb, t, none⟩ (.inl (.inr rfl)) _
  refine ⟨⟨A', hd.fr hF2 (fun g a c e => by omega), h4, h5⟩, hF2.after (hF.after h.old (fun g hg => by unfold P2 at hg; omega) (Nat.le_refl _)) (fun g e => by omega) (Nat.le_refl _), mem_fr (mem_fr h.pm hF (by unfold P2; omega)) hF2 (by omega), ?_, ?_, fun u h3' x' y' st' v hq => ?_, fun u h3' => ?_, up_di h3 h.di (fun u hu hne => trivial), hs, by omega⟩
  · rw [aBox_up p h3]
    exact ((mem_fr h.ar hF (by unfold P2; omega)).set_ t (.pointer none)).far (a := ⟨gb, t, none⟩) (by show ga ≠ gb; omega) _
  · rw [bBox_up p h3]
    exact ((mem_fr h.br hF (by unfold P2; omega)).far (a := ⟨ga, t, none⟩) (by show gb ≠ ga; omega) _).set_ t (.pointer none)
  · by_cases e : u = t
    · subst e
      rw [up_at] at hq
      cases hq
    · rw [up_ne e] at hq
      obtain ⟨m1, m2, l1, l2, l3⟩ := h.en u h3' x' y' st' v hq
      have h2 := h.di u t h3' h3 e
      rw [hq, hp] at h2
      obtain ⟨n1, n2, n3, n4⟩ := h2
      exact ⟨mem_fr (mem_fr m1 hF (by unfold P2; omega)) hF2 (by omega), mem_fr (mem_fr m2 hF (by unfold P2; omega)) hF2 (by omega), l1, l2, l3⟩
  · by_cases e : u = t
    · subst e
      rw [up_at]
      trivial
    · rw [up_ne e]
      exact h.ok u h3'
end
end Go.Proofs.Ytpdmmblcjidekaa.TurD
