/-
  Threads that enter and leave under a schedule, a fence among them: what holds of cells, boxes and slots.
-/
import Derived.Test.YthgbfghhiadjpaaEpoL
namespace Go.Proofs.Ythgbfghhiadjpaa.EpoM
open Go.ChangeShapes Go.WideShapes Go.ChangeAt Go.RowKit
open PlainT BlkW LayS LayA CelS CelM CelP CelV CelN CelO CelI CelY CelF LabD LabR LabP LabS EpoA EpoF EpoS
set_option linter.unusedVariables false
set_option maxHeartbeats 1000000

abbrev TE : TypeId := 123
abbrev TF : TypeId := 129
abbrev TA : TypeId := 93
/-- A thread: none, or its machine's box, state and snapshot. -/
abbrev Th := Option (Nat × Nat × Int)
def pt (o : Th) : Value := match o with | none => .pointer none | some (g, _, _) => .pointer (some ⟨g, 0, none⟩)
/-- A thread's slot holds x, while the clock is c. -/
def okT (c x : Int) (o : Th) : Prop := match o with
  | none => x = 0
  | some (_, st, v) => (st = 0 ∧ x = 0 ∧ v = -1) ∨ (st = 1 ∧ x = 1 ∧ v = -1) ∨ (st = 2 ∧ x = 1 ∧ 0 ≤ v ∧ v ≤ c) ∨ (st = 3 ∧ x = v + 2 ∧ 0 ≤ v ∧ v ≤ c)
/-- A thread has no snapshot that is less than l, and will have none. -/
def safT (l : Int) (o : Th) : Prop := match o with | none => True | some (_, st, v) => st ≤ 1 ∨ l ≤ v
theorem okT_pass {c x l : Int} {o : Th} (h : okT c x o) (hp : pass x l = true) : safT l o := by
  have hp : x = 0 ∨ (2 ≤ x ∧ l ≤ x - 2) := of_decide_eq_true hp
  match o, h with
  | none, h => trivial
  | some (_, st, v), h =>
    show st ≤ 1 ∨ l ≤ v
    rcases h with h | h | h | h <;> omega
theorem okT_check {c x l : Int} {o : Th} (h : okT c x o) (hs : safT l o) (hx : 2 ≤ x) : l ≤ x - 2 := by
  match o, h, hs with
  | none, h, hs =>
    have h : x = 0 := h
    omega
  | some (_, st, v), h, hs =>
    have hs : st ≤ 1 ∨ l ≤ v := hs
    rcases h with h | h | h | h <;> omega
theorem okT_grow {c c' x : Int} {o : Th} (h : okT c x o) (hc : c ≤ c') : okT c' x o := by
  match o, h with
  | none, h => exact h
  | some (_, st, v), h =>
    rcases h with h | h | h | h
    · exact .inl h
    · exact .inr (.inl h)
    · exact .inr (.inr (.inl ⟨h.1, h.2.1, h.2.2.1, by omega⟩))
    · exact .inr (.inr (.inr ⟨h.1, h.2.1, h.2.2.1, by omega⟩))
theorem okT_in {c x : Int} {o : Th} (h : okT c x o) (hc : c ≤ 200) (h0 : 0 ≤ c) : 0 ≤ x ∧ x ≤ 202 := by
  match o, h with
  | none, h =>
    have h : x = 0 := h
    omega
  | some (_, st, v), h => rcases h with h | h | h | h <;> omega
def up (p : Nat → Th) (t : Nat) (o : Th) : Nat → Th := fun j => if j = t then o else p j
theorem up_at (p : Nat → Th) (t : Nat) (o : Th) : up p t o t = o := if_pos rfl
theorem up_ne {p : Nat → Th} {t j : Nat} {o : Th} (h : j ≠ t) : up p t o j = p j := if_neg h
theorem set_at {s : List Int} {t : Nat} (h : t < s.length) (v : Int) : (s.set t v).getD t 0 = v := by
  rw [List.getD_eq_getElem?_getD, List.getElem?_set_self h]
  rfl
theorem set_ne {s : List Int} {t j : Nat} (h : j ≠ t) (v : Int) : (s.set t v).getD j 0 = s.getD j 0 := by
  rw [List.getD_eq_getElem?_getD, List.getElem?_set_ne (Ne.symm h), ← List.getD_eq_getElem?_getD]
abbrev eBox (t st : Nat) (v : Int) : Array Value := #[.int .i64 st, .int .i64 t, .int .i64 v]
abbrev fBox (k : Nat) (l : Int) : Array Value := #[.int .i64 (fsv 4 k), .int .i64 0, .int .i64 4, .int .i64 k, .int .i64 l]
abbrev aBox (p : Nat → Th) : Array Value := #[.pointer none, pt (p 1), pt (p 2), pt (p 3)]
structure GS (w0 : World) (lo hi b rb : Nat) (q : Cfg) (gp ga : Nat) (c : Int) (s : List Int) (p : Nat → Th) (fp : Option (Nat × Nat × Int)) (w : World) : Prop where
  sl : Sl w0 lo hi b rb q c s w
  pa : Mem w gp TP #[.pointer (some ⟨b, 0, none⟩), .pointer (some ⟨rb, 0, none⟩)]
  ar : Mem w ga TA (aBox p)
  en : ∀ t, 1 ≤ t → t ≤ 3 → ∀ g st v, p t = some (g, st, v) → Mem w g TE (eBox t st v) ∧ ga < g
  fe : ∀ g k l, fp = some (g, k, l) → Mem w g TF (fBox k l) ∧ ga < g ∧ 1 ≤ k ∧ k ≤ 4 ∧ 0 ≤ l ∧ l ≤ c
  ok : ∀ t, 1 ≤ t → t ≤ 3 → okT c (s.getD t 0) (p t)
  sa : ∀ g k l, fp = some (g, k, l) → ∀ t, 1 ≤ t → t < k → t ≤ 3 → safT l (p t)
  st : w0.heap.size ≤ lo ∧ lo ≤ hi ∧ hi ≤ gp ∧ gp < ga
  cl : 0 ≤ c ∧ c ≤ 200 ∧ s.length = 4
section
variable {w0 w w' : World} {lo hi b rb gp ga : Nat} {q : Cfg} {c : Int} {s : List Int} {p : Nat → Th} {fp : Option (Nat × Nat × Int)} {P : Nat → Prop}
theorem GS.p0 (h : GS w0 lo hi b rb q gp ga c s p fp w) : w.cell? ⟨gp, 0, none⟩ = some (.pointer (some ⟨b, 0, none⟩)) := h.pa.cell 0
theorem GS.p1 (h : GS w0 lo hi b rb q gp ga c s p fp w) : w.cell? ⟨gp, 1, none⟩ = some (.pointer (some ⟨rb, 0, none⟩)) := h.pa.cell 1
theorem GS.at_ (h : GS w0 lo hi b rb q gp ga c s p fp w) {t : Nat} (h1 : 1 ≤ t) (h3 : t ≤ 3) : w.cell? ⟨ga, t, none⟩ = some (pt (p t)) := by
  have : t = 1 ∨ t = 2 ∨ t = 3 := by omega
  rcases this with rfl | rfl | rfl
  · exact h.ar.cell 1
  · exact h.ar.cell 2
  · exact h.ar.cell 3
theorem GS.fz (h : GS w0 lo hi b rb q gp ga c s p fp w) (t : Nat) : w.frozen? ⟨ga, t, none⟩ = false := h.ar.frozen t
/-- A step that turns blocks from lo to hi, block g and new ones. -/
theorem GS.to (h : GS w0 lo hi b rb q gp ga c s p fp w) {g : Nat} (k : Fr (PG lo hi g) w w') (hg : ga < g) {c' : Int} {s' : List Int} {p' : Nat → Th} {fp' : Option (Nat × Nat × Int)} (hsl : Sl w0 lo hi b rb q c' s' w')
    (har : aBox p' = aBox p)
    (hen : ∀ t, 1 ≤ t → t ≤ 3 → ∀ g' st v, p' t = some (g', st, v) → (g' ≠ g ∧ p t = some (g', st, v)) ∨ (g' = g ∧ Mem w' g TE (eBox t st v)))
    (hfe : ∀ g' k l, fp' = some (g', k, l) → ((g' ≠ g ∧ fp = some (g', k, l)) ∨ (g' = g ∧ Mem w' g TF (fBox k l) ∧ 1 ≤ k ∧ k ≤ 4 ∧ 0 ≤ l)) ∧ l ≤ c')
    (hok : ∀ t, 1 ≤ t → t ≤ 3 → okT c' (s'.getD t 0) (p' t)) (hsa : ∀ g k l, fp' = some (g, k, l) → ∀ t, 1 ≤ t → t < k → t ≤ 3 → safT l (p' t)) (hcl : 0 ≤ c' ∧ c' ≤ 200 ∧ s'.length = 4) : GS w0 lo hi b rb q gp ga c' s' p' fp' w' := by
  have hs := h.st
  refine ⟨hsl, mem_fr h.pa k (by unfold PG; omega), har ▸ mem_fr h.ar k (by unfold PG; omega), fun t h1 h3 g' st v hp => ?_, fun g' k' l hf => ?_, hok, hsa, hs, hcl⟩
  · rcases hen t h1 h3 g' st v hp with ⟨hne, ho⟩ | ⟨rfl, hm⟩
    · obtain ⟨hm, hlt⟩ := h.en t h1 h3 g' st v ho
      exact ⟨mem_fr hm k (by unfold PG; omega), hlt⟩
    · exact ⟨hm, hg⟩
  · obtain ⟨⟨hne, ho⟩ | ⟨rfl, hm, h1, h2, h3⟩, hl⟩ := hfe g' k' l hf
    · obtain ⟨hm, hlt, a1, a2, a3, _⟩ := h.fe g' k' l ho
      exact ⟨mem_fr hm k (by unfold PG; omega), hlt, a1, a2, a3, hl⟩
    · exact ⟨hm, hg, h1, h2, h3, hl⟩
theorem GS.below (h : GS w0 lo hi b rb q gp ga c s p fp w) (k : Below w.heap.size w w') : GS w0 lo hi b rb q gp ga c s p fp w' :=
  ⟨h.sl.below k, h.pa.below k h.pa.lt, h.ar.below k h.ar.lt, fun t h1 h3 g st v hp => ⟨(h.en t h1 h3 g st v hp).1.below k (h.en t h1 h3 g st v hp).1.lt, (h.en t h1 h3 g st v hp).2⟩, fun g k' l hf => ⟨(h.fe g k' l hf).1.below k (h.fe g k' l hf).1.lt, (h.fe g k' l hf).2⟩, h.ok, h.sa, h.st, h.cl⟩
theorem GS.drewN (h : GS w0 lo hi b rb q gp ga c s p fp w) (n : Nat) : GS w0 lo hi b rb q gp ga c s p fp (w.drewN n) := h.below (below_drewN (Below.refl _ w) n)
theorem GS.drew (h : GS w0 lo hi b rb q gp ga c s p fp w) : GS w0 lo hi b rb q gp ga c s p fp w.drew := h.drewN 1
theorem GS.stay (h : GS w0 lo hi b rb q gp ga c s p fp w) (k : Stay lo hi w w') {c' : Int} (hsl : Sl w0 lo hi b rb q c' s w') (hc : c ≤ c') (hc2 : c' ≤ 200) : GS w0 lo hi b rb q gp ga c' s p fp w' := by
  have hF := Fr.of_stay (P := PI lo hi) k (fun x a c => ⟨a, c⟩)
  have hs := h.st
  have hcl := h.cl
  refine ⟨hsl, mem_fr h.pa hF (by unfold PI; omega), mem_fr h.ar hF (by unfold PI; omega), fun t h1 h3 g st v hp => ?_, fun g k' l hf => ?_, fun t h1 h3 => okT_grow (h.ok t h1 h3) hc, h.sa, hs, by omega, hc2, hcl.2.2⟩
  · obtain ⟨hm, hlt⟩ := h.en t h1 h3 g st v hp
    exact ⟨mem_fr hm hF (by unfold PI; omega), hlt⟩
  · obtain ⟨hm, hlt, a1, a2, a3, a4⟩ := h.fe g k' l hf
    exact ⟨mem_fr hm hF (by unfold PI; omega), hlt, a1, a2, a3, by omega⟩
/-- The clock goes on. -/
theorem gs_clock (h : GS w0 lo hi b rb q gp ga c s p fp w) (c' : Int) (hc : c ≤ c') (hc2 : c' ≤ 200) : Calls Try.prog 35 #[pairV b rb, .int .i64 3, .int .i64 0, .int .u64 c'] w fun e w' => e = .returned (.bool true) ∧ GS w0 lo hi b rb q gp ga c' s p fp w' := by
  refine (l_clock h.sl c').mono ?_
  rintro e w' ⟨he, hS, hT⟩
  exact ⟨he, h.stay hT hS hc hc2⟩
/-- A fence begins. -/
theorem gs_f0 (h : GS w0 lo hi b rb q gp ga c s p none w) {g : Nat} (hg : ga < g) (M : Mem w g TF #[.int .i64 0, .int .i64 0, .int .i64 4, .int .i64 0, .int .i64 (-1)]) : Calls Try.prog 53 #[.pointer (some ⟨g, 0, none⟩), .pointer (some ⟨b, 0, none⟩)] w fun e w' => (∃ v, e = .returned v) ∧ GS w0 lo hi b rb q gp ga c s p (some (g, 1, c)) w' := by
  have hs := h.st
  have hcl := h.cl
  refine (l_f0 h.sl (.inr (by omega)) (by omega) 0 4 hcl.1 (by omega) M).mono ?_
  rintro e w' ⟨he, hS, hM, hF⟩
  refine ⟨⟨_, he⟩, h.to hF hg hS rfl (fun t h1 h3 g' st v hp => ?_) (fun g' k l hf => ?_) h.ok (fun g' k l hf t h1 hk _ => ?_) hcl⟩
  · by_cases e0 : g' = g
    · subst e0
      have hm := (h.en t h1 h3 g' st v hp).1
      rw [Mem, M] at hm
      injection hm with hm
      injection hm with _ hm
      exact absurd hm (by decide)
    · exact .inl ⟨e0, hp⟩
  · injection hf with hf
    injection hf with e1 hf
    injection hf with e2 e3
    subst e1
    subst e2
    subst e3
    exact ⟨.inr ⟨rfl, hM, by decide, by decide, hcl.1⟩, Int.le_refl _⟩
  · injection hf with hf
    injection hf with e1 hf
    injection hf with e2 e3
    omega
/-- A fence watches. -/
theorem gs_f1 {g k : Nat} {l : Int} (h : GS w0 lo hi b rb q gp ga c s p (some (g, k, l)) w) (hk3 : k ≤ 3) : Calls Try.prog 53 #[.pointer (some ⟨g, 0, none⟩), .pointer (some ⟨b, 0, none⟩)] w fun e w' => (∃ v, e = .returned v) ∧ ∃ k', 1 ≤ k' ∧ k' ≤ 4 ∧ GS w0 lo hi b rb q gp ga c s p (some (g, k', l)) w' := by
  have hs := h.st
  have hcl := h.cl
  obtain ⟨M, hg, hk1, _, l0, lc⟩ := h.fe g k l rfl
  have hx := okT_in (h.ok k hk1 hk3) hcl.2.1 hcl.1
  have e1 : fsv 4 (k : Nat) = 1 := if_neg (by omega)
  have M1 : Mem w g TF #[.int .i64 1, .int .i64 0, .int .i64 4, .int .i64 k, .int .i64 l] := by
    have hm : Mem w g TF #[.int .i64 (fsv 4 (k : Nat)), .int .i64 0, .int .i64 4, .int .i64 k, .int .i64 l] := M
    rwa [e1] at hm
  have hmix : ∀ w', Mem w g TF (fBox k l) → ∀ t, 1 ≤ t → t ≤ 3 → ∀ g' st v, p t = some (g', st, v) → (g' ≠ g ∧ p t = some (g', st, v)) ∨ (g' = g ∧ Mem w' g TE (eBox t st v)) := by
    intro w' M t h1 h3 g' st v hp
    by_cases e0 : g' = g
    · subst e0
      have hm := (h.en t h1 h3 g' st v hp).1
      rw [Mem, M] at hm
      injection hm with hm
      injection hm with _ hm
      exact absurd hm (by decide)
    · exact .inl ⟨e0, hp⟩
  by_cases hp : pass (s.getD k 0) l = true
  · refine (l_f1_yes h.sl (.inr (by omega)) (by omega) 0 4 k (by omega) _ rfl hx.1 (by omega) l l0 (by omega) (Lib.hid hp) M1).mono ?_
    rintro e w' ⟨he, hS, hM, hF⟩
    have e2 : skp 0 ((k : Int) + 1) = ((k + 1 : Nat) : Int) := by
      unfold skp
      rw [if_neg (by omega)]
      omega
    rw [e2] at hM
    refine ⟨⟨_, he⟩, k + 1, by omega, by omega, h.to hF hg hS rfl (hmix w' M) (fun g' k' l' hf => ?_) h.ok (fun g' k' l' hf t h1 hk _ => ?_) hcl⟩
    · injection hf with hf
      injection hf with e1 hf
      injection hf with e2 e3
      subst e1
      subst e2
      subst e3
      exact ⟨.inr ⟨rfl, hM, by omega, by omega, l0⟩, lc⟩
    · injection hf with hf
      injection hf with e1 hf
      injection hf with e2 e3
      subst e1
      subst e2
      subst e3
      by_cases ht : t < k
      · exact h.sa g k l rfl t h1 ht (by omega)
      · obtain rfl : t = k := by omega
        exact okT_pass (h.ok t h1 hk3) hp
  · refine (l_f1_no h.sl (.inr (by omega)) (by omega) 0 4 k (by omega) _ rfl hx.1 (by omega) l l0 (by omega) (Lib.hid (by simpa using hp)) M1).mono ?_
    rintro e w' ⟨he, hS, hM, hF⟩
    refine ⟨⟨_, he⟩, k, hk1, by omega, h.to hF hg hS rfl (hmix w' M) (fun g' k' l' hf => ?_) h.ok h.sa hcl⟩
    injection hf with hf
    injection hf with e1 hf
    injection hf with e2 e3
    subst e1
    subst e2
    subst e3
    refine ⟨.inr ⟨rfl, ?_, hk1, by omega, l0⟩, lc⟩
    show Mem w' g TF (fBox k l)
    have e1 : fsv 4 (k : Nat) = 1 := if_neg (by omega)
    simp only [fBox, e1]
    exact hM
/-- A thread's machine makes a step. -/
theorem gs_step {t g st : Nat} {v : Int} (h : GS w0 lo hi b rb q gp ga c s p fp w) (h1 : 1 ≤ t) (h3 : t ≤ 3) (hp : p t = some (g, st, v)) (hst : st ≤ 2) : Calls Try.prog 41 #[.pointer (some ⟨g, 0, none⟩), .pointer (some ⟨b, 0, none⟩)] w fun e w' => (∃ v, e = .returned v) ∧ ∃ s' v', GS w0 lo hi b rb q gp ga c s' (up p t (some (g, st + 1, v'))) fp w' := by
  have hs := h.st
  have hcl := h.cl
  obtain ⟨M, hg⟩ := h.en t h1 h3 g st v hp
  have hok := h.ok t h1 h3
  rw [hp] at hok
  have har : ∀ st' v', aBox (up p t (some (g, st', v'))) = aBox p := by
    intro st' v'
    have : t = 1 ∨ t = 2 ∨ t = 3 := by omega
    rcases this with rfl | rfl | rfl <;> simp [aBox, up, hp, pt]
  have hen : ∀ w' st' v', Mem w' g TE (eBox t st' v') → ∀ t', 1 ≤ t' → t' ≤ 3 → ∀ g' st'' v'', up p t (some (g, st', v')) t' = some (g', st'', v'') → (g' ≠ g ∧ p t' = some (g', st'', v'')) ∨ (g' = g ∧ Mem w' g TE (eBox t' st'' v'')) := by
    intro w' st' v' hM t' h1' h3' g' st'' v'' hq
    by_cases e0 : t' = t
    · subst e0
      rw [up_at] at hq
      injection hq with hq
      injection hq with e1 hq
      injection hq with e2 e3
      subst e1
      subst e2
      subst e3
      exact .inr ⟨rfl, hM⟩
    · rw [up_ne e0] at hq
      refine .inl ⟨?_, hq⟩
      rintro rfl
      have hm := (h.en t' h1' h3' g' st'' v'' hq).1
      rw [Mem, M] at hm
      injection hm with hm
      injection hm with hm
      have hm := congrArg (fun a : Array Value => a[1]?) hm
      simp [eBox] at hm
      omega
  have hfe' : ∀ w' : World, ∀ g' k l, fp = some (g', k, l) → ((g' ≠ g ∧ fp = some (g', k, l)) ∨ (g' = g ∧ Mem w' g TF (fBox k l) ∧ 1 ≤ k ∧ k ≤ 4 ∧ 0 ≤ l)) ∧ l ≤ c := by
    intro w' g' k l hf
    obtain ⟨hm, _, _, _, _, hl⟩ := h.fe g' k l hf
    refine ⟨.inl ⟨?_, hf⟩, hl⟩
    rintro rfl
    rw [Mem, M] at hm
    injection hm with hm
    injection hm with _ hm
    exact absurd hm (by decide)
  have htl : t < s.length := by omega
  have hok' : ∀ (x v' : Int) (st' : Nat), okT c x (some (g, st', v')) → ∀ t', 1 ≤ t' → t' ≤ 3 → okT c ((s.set t x).getD t' 0) (up p t (some (g, st', v')) t') := by
    intro x v' st' hx t' h1' h3'
    by_cases e0 : t' = t
    · subst e0
      rw [up_at, set_at htl]
      exact hx
    · rw [up_ne e0, set_ne e0]
      exact h.ok t' h1' h3'
  have hsa' : ∀ (v' : Int) (st' : Nat), (∀ g' k l, fp = some (g', k, l) → t < k → safT l (some (g, st', v'))) → ∀ g' k l, fp = some (g', k, l) → ∀ t', 1 ≤ t' → t' < k → t' ≤ 3 → safT l (up p t (some (g, st', v')) t') := by
    intro v' st' hx g' k l hf t' h1' hk' h3'
    by_cases e0 : t' = t
    · subst e0
      rw [up_at]
      exact hx g' k l hf hk'
    · rw [up_ne e0]
      exact h.sa g' k l hf t' h1' hk' h3'
  have : st = 0 ∨ st = 1 ∨ st = 2 := by omega
  rcases this with rfl | rfl | rfl
  · have hv : v = -1 := by rcases hok with h | h | h | h <;> omega
    refine (l_e0 h.sl (.inr (by omega)) (by omega) v t htl _ rfl M).mono ?_
    rintro e w' ⟨he, hS, hM, hF⟩
    exact ⟨⟨_, he⟩, s.set t 1, v, h.to hF hg hS (har _ _) (hen w' _ _ hM) (hfe' w') (hok' 1 v 1 (.inr (.inl ⟨rfl, rfl, hv⟩))) (hsa' v 1 fun _ _ _ _ _ => .inl (by omega)) ⟨hcl.1, hcl.2.1, by simpa using hcl.2.2⟩⟩
  · have hx1 : s.getD t 0 = 1 := by rcases hok with h | h | h | h <;> omega
    refine (l_e1 h.sl (.inr (by omega)) (by omega) t v hcl.1 (by omega) M).mono ?_
    rintro e w' ⟨he, hS, hM, hF⟩
    have es : s.set t 1 = s := by
      rw [← hx1, List.getD_eq_getElem?_getD, List.getElem?_eq_getElem htl, Option.getD_some]
      exact List.set_getElem_self htl
    have hk := hok' 1 c 2 (.inr (.inr (.inl ⟨rfl, rfl, hcl.1, Int.le_refl _⟩)))
    rw [es] at hk
    exact ⟨⟨_, he⟩, s, c, h.to hF hg hS (har _ _) (hen w' _ _ hM) (hfe' w') hk (hsa' c 2 fun g' k l hf _ => .inr (h.fe g' k l hf).2.2.2.2.2) hcl⟩
  · have hv : 0 ≤ v ∧ v ≤ c := by rcases hok with h | h | h | h <;> omega
    refine (l_e2 h.sl (.inr (by omega)) (by omega) t htl _ rfl v hv.1 (by omega) M).mono ?_
    rintro e w' ⟨he, hS, hM, hF⟩
    refine ⟨⟨_, he⟩, s.set t (v + 2), v, h.to hF hg hS (har _ _) (hen w' _ _ hM) (hfe' w') (hok' (v + 2) v 3 (.inr (.inr (.inr ⟨rfl, rfl, hv.1, hv.2⟩)))) (hsa' v 3 fun g' k l hf hk => ?_) ⟨hcl.1, hcl.2.1, by simpa using hcl.2.2⟩⟩
    have := h.sa g' k l hf t h1 hk h3
    rw [hp] at this
    rcases this with h | h
    · omega
    · exact .inr h
/-- A thread's machine is made. -/
theorem gs_new {t : Nat} (h : GS w0 lo hi b rb q gp ga c s p fp w) (h1 : 1 ≤ t) (h3 : t ≤ 3) (hp : p t = none) : GS w0 lo hi b rb q gp ga c s (up p t (some (w.heap.size, 0, -1))) fp ((w.alloc (.cells #[.int .i64 0, .int .i64 t, .int .i64 (-1)] TE)).setCell ⟨ga, t, none⟩ (.pointer (some ⟨w.heap.size, 0, none⟩))) := by
  have hs := h.st
  have hga := h.ar.lt
  have hF : Fr (fun x => x = ga) w ((w.alloc (.cells #[.int .i64 0, .int .i64 t, .int .i64 (-1)] TE)).setCell ⟨ga, t, none⟩ (.pointer (some ⟨w.heap.size, 0, none⟩))) := ((Fr.refl (fun x => x = ga) w).alloc _).set_ ⟨ga, t, none⟩ (.inl rfl) _
  have hnew : Mem ((w.alloc (.cells #[.int .i64 0, .int .i64 t, .int .i64 (-1)] TE)).setCell ⟨ga, t, none⟩ (.pointer (some ⟨w.heap.size, 0, none⟩))) w.heap.size TE (eBox t 0 (-1)) := (Mem.new w TE (eBox t 0 (-1))).far (a := ⟨ga, t, none⟩) (by show w.heap.size ≠ ga; omega) _
  refine ⟨h.sl.fr hF (fun g a c e => by omega) (fun g e => by omega), mem_fr h.pa hF (by omega), ?_, fun t' h1' h3' g st v hq => ?_, fun g k l hf => ?_, fun t' h1' h3' => ?_, fun g k l hf t' h1' hk' h3' => ?_, hs, h.cl⟩
  · have hm := (h.ar.alloc (.cells #[.int .i64 0, .int .i64 t, .int .i64 (-1)] TE)).set_ t (.pointer (some ⟨w.heap.size, 0, none⟩))
    have : t = 1 ∨ t = 2 ∨ t = 3 := by omega
    rcases this with rfl | rfl | rfl <;> simpa [aBox, up, pt] using hm
  · by_cases e0 : t' = t
    · subst e0
      rw [up_at] at hq
      injection hq with hq
      injection hq with e1 hq
      injection hq with e2 e3
      subst e1
      subst e2
      subst e3
      exact ⟨hnew, hga⟩
    · rw [up_ne e0] at hq
      obtain ⟨hm, hlt⟩ := h.en t' h1' h3' g st v hq
      exact ⟨mem_fr hm hF (by omega), hlt⟩
  · obtain ⟨hm, hlt, a⟩ := h.fe g k l hf
    exact ⟨mem_fr hm hF (by omega), hlt, a⟩
  · by_cases e0 : t' = t
    · subst e0
      have := h.ok t' h1' h3'
      rw [hp] at this
      rw [up_at]
      exact .inl ⟨rfl, this, rfl⟩
    · rw [up_ne e0]
      exact h.ok t' h1' h3'
  · by_cases e0 : t' = t
    · subst e0
      rw [up_at]
      exact .inl (by omega)
    · rw [up_ne e0]
      exact h.sa g k l hf t' h1' hk' h3'
/-- A thread has left. -/
theorem gs_left {t : Nat} (h : GS w0 lo hi b rb q gp ga c s p fp w) (h1 : 1 ≤ t) (h3 : t ≤ 3) (hsl : Sl w0 lo hi b rb q c (s.set t 0) w') (k : Stay lo hi w w') : GS w0 lo hi b rb q gp ga c (s.set t 0) (up p t none) fp (w'.setCell ⟨ga, t, none⟩ (.pointer none)) := by
  have hs := h.st
  have hcl := h.cl
  have hF0 := Fr.of_stay (P := fun x => PI lo hi x ∨ x = ga) k (fun x a c => .inl ⟨a, c⟩)
  have hF := hF0.set_ ⟨ga, t, none⟩ (.inl (.inr rfl)) (.pointer none)
  refine ⟨hsl.fr ((Fr.refl (fun x => x = ga) w').set_ ⟨ga, t, none⟩ (.inl rfl) _) (fun g a c e => by omega) (fun g e => by omega), mem_fr h.pa hF (by unfold PI; omega), ?_, fun t' h1' h3' g st v hq => ?_, fun g k l hf => ?_, fun t' h1' h3' => ?_, fun g k l hf t' h1' hk' h3' => ?_, hs, hcl.1, hcl.2.1, by simpa using hcl.2.2⟩
  · have hm := (Mem.of_eq h.ar (k.block ga h.ar.lt (.inr (by omega)))).set_ t (.pointer none)
    have : t = 1 ∨ t = 2 ∨ t = 3 := by omega
    rcases this with rfl | rfl | rfl <;> simpa [aBox, up, pt] using hm
  · by_cases e0 : t' = t
    · subst e0
      rw [up_at] at hq
      cases hq
    · rw [up_ne e0] at hq
      obtain ⟨hm, hlt⟩ := h.en t' h1' h3' g st v hq
      exact ⟨mem_fr hm hF (by unfold PI; omega), hlt⟩
  · obtain ⟨hm, hlt, a⟩ := h.fe g k l hf
    exact ⟨mem_fr hm hF (by unfold PI; omega), hlt, a⟩
  · by_cases e0 : t' = t
    · subst e0
      rw [up_at, set_at (by omega)]
      rfl
    · rw [up_ne e0, set_ne e0]
      exact h.ok t' h1' h3'
  · by_cases e0 : t' = t
    · subst e0
      rw [up_at]
      trivial
    · rw [up_ne e0]
      exact h.sa g k l hf t' h1' hk' h3'
/-- A fence has ended. -/
theorem GS.over (h : GS w0 lo hi b rb q gp ga c s p fp w) : GS w0 lo hi b rb q gp ga c s p none w :=
  ⟨h.sl, h.pa, h.ar, h.en, fun _ _ _ hf => by (cases hf), h.ok, fun _ _ _ hf => by (cases hf), h.st, h.cl⟩
theorem gs_image (h : GS w0 lo hi b rb q gp ga c s p fp w) : Calls Try.prog 25 #[.pointer (some ⟨b, 0, none⟩)] w fun e w' => ∃ vd vo k t v vl vh vn, e = .returned (imgV vd vo k t v vl vh vn) ∧ OwnU w' w.heap.size vl s ∧ GS w0 lo hi b rb q gp ga c s p fp w' := by
  refine (l_image h.sl).mono ?_
  rintro e w' ⟨vd, vo, k, t, v, vl, vh, vn, he, ho, hS, hT⟩
  exact ⟨vd, vo, k, t, v, vl, vh, vn, he, ho, h.stay hT hS (Int.le_refl _) h.cl.2.1⟩
end
end Go.Proofs.Ythgbfghhiadjpaa.EpoM
