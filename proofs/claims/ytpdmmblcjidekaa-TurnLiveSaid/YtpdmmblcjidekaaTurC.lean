/-
  Machines that take turns under a schedule: what holds of cells, boxes and tickets.
-/
import Derived.Test.YtpdmmblcjidekaaTurB
namespace Go.Proofs.Ytpdmmblcjidekaa.TurC
open Go.ChangeShapes Go.WideShapes Go.ChangeAt Go.RowKit
open PlainT BlkW LayS LayA CelS CelM CelP CelV CelN CelO CelI CelY CelF LabD LabR LabP LabS TurA TurB
set_option linter.unusedVariables false
set_option maxHeartbeats 1000000

abbrev TA : TypeId := 88
/-- A thread: none, or its machine's box, state and ticket. -/
abbrev Th := Option (Nat × Nat × Int)
def pt (o : Th) : Value := match o with | none => .pointer none | some (g, _, _) => .pointer (some ⟨g, 0, none⟩)
def cn (o : Th) : Int := match o with | none => 0 | some (_, st, _) => if st = 0 then 0 else 1
def up (p : Nat → Th) (t : Nat) (o : Th) : Nat → Th := fun j => if j = t then o else p j
theorem up_at (p : Nat → Th) (t : Nat) (o : Th) : up p t o t = o := if_pos rfl
theorem up_ne {p : Nat → Th} {t j : Nat} {o : Th} (h : j ≠ t) : up p t o j = p j := if_neg h
def cnt (p : Nat → Th) : Int := cn (p 0) + cn (p 1) + cn (p 2) + cn (p 3)
theorem cn_in (o : Th) : 0 ≤ cn o ∧ cn o ≤ 1 := by
  unfold cn
  split
  · omega
  · split <;> omega
theorem cnt_up (p : Nat → Th) {t : Nat} (ht : t ≤ 3) (o : Th) : cnt (up p t o) = cnt p + cn o - cn (p t) := by
  unfold cnt
  have : t = 0 ∨ t = 1 ∨ t = 2 ∨ t = 3 := by omega
  rcases this with rfl | rfl | rfl | rfl <;> simp [up] <;> omega
abbrev aBox (p : Nat → Th) : Array Value := #[pt (p 0), pt (p 1), pt (p 2), pt (p 3)]
theorem aBox_up (p : Nat → Th) {t : Nat} (ht : t ≤ 3) (o : Th) : aBox (up p t o) = (aBox p).setIfInBounds t (pt o) := by
  have : t = 0 ∨ t = 1 ∨ t = 2 ∨ t = 3 := by omega
  rcases this with rfl | rfl | rfl | rfl <;> simp [aBox, up]
theorem aBox_same (p : Nat → Th) {t g st st' : Nat} {k k' : Int} (hp : p t = some (g, st, k)) : aBox (up p t (some (g, st', k'))) = aBox p := by
  have h : ∀ j, pt (up p t (some (g, st', k')) j) = pt (p j) := by
    intro j
    by_cases e : j = t
    · subst e
      rw [up_at, hp]
      rfl
    · rw [up_ne e]
  simp [aBox, h]
/-- A thread's ticket lies between the counters. -/
def okT (T S : Int) (o : Th) : Prop := match o with
  | none => True
  | some (_, st, k) => (st = 0 ∧ k = -1) ∨ (st = 1 ∧ S ≤ k ∧ k < T) ∨ (st = 2 ∧ k = S ∧ k < T)
/-- Two threads have two boxes and, if both have one, two tickets. -/
def twoT (o o' : Th) : Prop := match o, o' with
  | some (g, st, k), some (g', st', k') => g ≠ g' ∧ (1 ≤ st → 1 ≤ st' → k ≠ k')
  | _, _ => True
theorem twoT_comm {o o' : Th} (h : twoT o o') : twoT o' o := by
  match o, o', h with
  | none, none, _ => trivial
  | none, some _, _ => trivial
  | some _, none, _ => trivial
  | some (g, st, k), some (g', st', k'), h => exact ⟨fun e => h.1 e.symm, fun a b e => h.2 b a e.symm⟩
structure TS (w0 : World) (lo hi b rb : Nat) (q : Cfg) (gp ga : Nat) (T S : Int) (p : Nat → Th) (w : World) : Prop where
  ct : Ct w0 lo hi b rb q T S w
  pa : Mem w gp TP #[.pointer (some ⟨b, 0, none⟩), .pointer (some ⟨rb, 0, none⟩)]
  ar : Mem w ga TA (aBox p)
  en : ∀ t, t ≤ 3 → ∀ g st k, p t = some (g, st, k) → Mem w g TT (tBox st k) ∧ ga < g
  ok : ∀ t, t ≤ 3 → okT T S (p t)
  di : ∀ t u, t ≤ 3 → u ≤ 3 → t ≠ u → twoT (p t) (p u)
  hl : ∀ k, S ≤ k → k < T → ∃ t g st, t ≤ 3 ∧ p t = some (g, st, k) ∧ 1 ≤ st
  st : w0.heap.size ≤ lo ∧ lo ≤ hi ∧ hi ≤ gp ∧ gp < ga
  cl : 0 ≤ S ∧ T = S + cnt p ∧ T ≤ 1000
section
variable {w0 w w' : World} {lo hi b rb gp ga : Nat} {q : Cfg} {T S : Int} {p : Nat → Th} {P : Nat → Prop}
theorem TS.p0 (h : TS w0 lo hi b rb q gp ga T S p w) : w.cell? ⟨gp, 0, none⟩ = some (.pointer (some ⟨b, 0, none⟩)) := h.pa.cell 0
theorem TS.at_ (h : TS w0 lo hi b rb q gp ga T S p w) {t : Nat} (h3 : t ≤ 3) : w.cell? ⟨ga, t, none⟩ = some (pt (p t)) := by
  have : t = 0 ∨ t = 1 ∨ t = 2 ∨ t = 3 := by omega
  rcases this with rfl | rfl | rfl | rfl
  · exact h.ar.cell 0
  · exact h.ar.cell 1
  · exact h.ar.cell 2
  · exact h.ar.cell 3
theorem TS.fz (h : TS w0 lo hi b rb q gp ga T S p w) (t : Nat) : w.frozen? ⟨ga, t, none⟩ = false := h.ar.frozen t
theorem TS.below (h : TS w0 lo hi b rb q gp ga T S p w) (k : Below w.heap.size w w') : TS w0 lo hi b rb q gp ga T S p w' :=
  ⟨h.ct.below k, h.pa.below k h.pa.lt, h.ar.below k h.ar.lt, fun t h3 g st v hp => ⟨(h.en t h3 g st v hp).1.below k (h.en t h3 g st v hp).1.lt, (h.en t h3 g st v hp).2⟩, h.ok, h.di, h.hl, h.st, h.cl⟩
theorem TS.drewN (h : TS w0 lo hi b rb q gp ga T S p w) (n : Nat) : TS w0 lo hi b rb q gp ga T S p (w.drewN n) := h.below (below_drewN (Below.refl _ w) n)
theorem TS.drew (h : TS w0 lo hi b rb q gp ga T S p w) : TS w0 lo hi b rb q gp ga T S p w.drew := h.drewN 1
theorem up_two {t : Nat} {o : Th} (ht : t ≤ 3) (h : ∀ t u, t ≤ 3 → u ≤ 3 → t ≠ u → twoT (p t) (p u)) (ho : ∀ u, u ≤ 3 → u ≠ t → twoT o (p u)) : ∀ x u, x ≤ 3 → u ≤ 3 → x ≠ u → twoT (up p t o x) (up p t o u) := by
  intro x u hx hu hne
  by_cases e1 : x = t
  · subst e1
    rw [up_at, up_ne (Ne.symm hne)]
    exact ho u hu (Ne.symm hne)
  · rw [up_ne e1]
    by_cases e2 : u = t
    · subst e2
      rw [up_at]
      exact twoT_comm (ho x hx e1)
    · rw [up_ne e2]
      exact h x u hx hu hne
/-- A thread's machine makes a step that turns its box, perhaps the ticket counter. -/
theorem TS.to (h : TS w0 lo hi b rb q gp ga T S p w) {t g st st' : Nat} {k k' T' : Int} (h3 : t ≤ 3) (hp : p t = some (g, st, k)) (hct : Ct w0 lo hi b rb q T' S w') (hm : Mem w' g TT (tBox st' k')) (hF : Fr (PG lo hi g) w w')
    (hok : okT T' S (some (g, st', k'))) (hT : T ≤ T') (htwo : ∀ u g' st'' k'', u ≤ 3 → u ≠ t → p u = some (g', st'', k'') → 1 ≤ st' → 1 ≤ st'' → k' ≠ k'')
    (hhl : ∀ j, S ≤ j → j < T' → (j < T ∧ (1 ≤ st → j = k → (1 ≤ st' ∧ k' = j))) ∨ (1 ≤ st' ∧ k' = j)) (hc : T' = T + (cn (some (g, st', k')) - cn (some (g, st, k)))) (h1 : T' ≤ 1000) :
    TS w0 lo hi b rb q gp ga T' S (up p t (some (g, st', k'))) w' := by
  have hs := h.st
  have hcl := h.cl
  obtain ⟨M, hg⟩ := h.en t h3 g st k hp
  refine ⟨hct, mem_fr h.pa hF (by unfold PG; omega), (aBox_same p hp) ▸ mem_fr h.ar hF (by unfold PG; omega), fun u h3' g' st'' k'' hq => ?_, fun u h3' => ?_, up_two h3 h.di (fun u hu hne => ?_), fun j hj hjT => ?_, hs, hcl.1, ?_, h1⟩
  · by_cases e : u = t
    · subst e
      rw [up_at] at hq
      injection hq with hq
      injection hq with e1 hq
      injection hq with e2 e3
      subst e1 e2 e3
      exact ⟨hm, hg⟩
    · rw [up_ne e] at hq
      obtain ⟨hm', hlt⟩ := h.en u h3' g' st'' k'' hq
      have h2 := h.di u t h3' h3 e
      rw [hq, hp] at h2
      have hne : g' ≠ g := h2.1
      exact ⟨mem_fr hm' hF (by unfold PG; omega), hlt⟩
  · by_cases e : u = t
    · subst e
      rw [up_at]
      exact hok
    · rw [up_ne e]
      have h2 := h.ok u h3'
      revert h2
      cases p u with
      | none => exact id
      | some x =>
        obtain ⟨a, c, d⟩ := x
        show _ ∨ _ ∨ _ → _ ∨ _ ∨ _
        intro h2
        omega
  · have h2 := h.di t u h3 hu (Ne.symm hne)
    rw [hp] at h2
    revert h2
    cases hq : p u with
    | none => exact fun _ => trivial
    | some x =>
      obtain ⟨a, c, d⟩ := x
      intro h2
      exact ⟨h2.1, fun a1 a2 => htwo u a c d hu hne hq a1 a2⟩
  · rcases hhl j hj hjT with ⟨h4, h5⟩ | ⟨h4, h5⟩
    · obtain ⟨u, g', st'', hu, hq, hst⟩ := h.hl j hj h4
      by_cases e : u = t
      · subst e
        rw [hp] at hq
        injection hq with hq
        injection hq with e1 hq
        injection hq with e2 e3
        subst e1 e2
        obtain ⟨h6, h7⟩ := h5 hst e3.symm
        exact ⟨u, g, st', hu, by rw [up_at, h7], h6⟩
      · exact ⟨u, g', st'', hu, by rw [up_ne e]; exact hq, hst⟩
    · exact ⟨t, g, st', h3, by rw [up_at, h5], h4⟩
  · rw [cnt_up p h3, hp]
    omega
theorem ts_step0 {t g : Nat} {k : Int} (h : TS w0 lo hi b rb q gp ga T S p w) (h3 : t ≤ 3) (hp : p t = some (g, 0, k)) (hT : T < 1000) : Calls Try.prog 58 #[.pointer (some ⟨g, 0, none⟩), .pointer (some ⟨b, 0, none⟩)] w fun e w' => (∃ v, e = .returned v) ∧ TS w0 lo hi b rb q gp ga (T + 1) S (up p t (some (g, 1, T))) w' := by
  have hs := h.st
  have hcl := h.cl
  obtain ⟨M, hg⟩ := h.en t h3 g 0 k hp
  have c0 := cn_in (p 0)
  have c1 := cn_in (p 1)
  have c2 := cn_in (p 2)
  have c3 := cn_in (p 3)
  have hTS : S ≤ T := by
    have := hcl.2.1
    unfold cnt at this
    omega
  refine (c_s0 h.ct (.inr (by omega)) (by omega) k (by omega) (by omega) M).mono ?_
  rintro e w' ⟨he, hS, hM, hF⟩
  refine ⟨⟨_, he⟩, h.to h3 hp hS hM hF (.inr (.inl ⟨rfl, hTS, by omega⟩)) (by omega) (fun u g' st'' k'' hu hne hq _ h1 e => ?_) (fun j hj hjT => ?_) (by simp [cn]) (by omega)⟩
  · have h2 := h.ok u hu
    rw [hq] at h2
    have h2 : _ ∨ _ ∨ _ := h2
    omega
  · by_cases e : j < T
    · exact .inl ⟨e, fun h => by omega⟩
    · exact .inr ⟨by omega, by omega⟩
theorem ts_step1 {t g st : Nat} {k : Int} (h : TS w0 lo hi b rb q gp ga T S p w) (h3 : t ≤ 3) (hp : p t = some (g, st, k)) (hst : 1 ≤ st) : Calls Try.prog 58 #[.pointer (some ⟨g, 0, none⟩), .pointer (some ⟨b, 0, none⟩)] w fun e w' => (∃ v, e = .returned v) ∧ TS w0 lo hi b rb q gp ga T S (up p t (some (g, (if k = S then 2 else 1), k))) w' := by
  have hs := h.st
  have hcl := h.cl
  obtain ⟨M, hg⟩ := h.en t h3 g st k hp
  have hok := h.ok t h3
  rw [hp] at hok
  have hok : _ ∨ _ ∨ _ := hok
  have hto : ∀ (st' : Nat) w', 1 ≤ st' → okT T S (some (g, st', k)) → Ct w0 lo hi b rb q T S w' → Mem w' g TT (tBox st' k) → Fr (PG lo hi g) w w' → TS w0 lo hi b rb q gp ga T S (up p t (some (g, st', k))) w' := by
    intro st' w' h1 ho hC hM hF
    refine h.to h3 hp hC hM hF ho (Int.le_refl _) (fun u g' st'' k'' hu hne hq _ h5 => ?_) (fun j hj hjT => .inl ⟨hjT, fun _ e => ⟨h1, e.symm⟩⟩) ?_ hcl.2.2
    · have h2 := h.di t u h3 hu (Ne.symm hne)
      rw [hp, hq] at h2
      exact h2.2 hst h5
    · have e1 : cn (some (g, st', k)) = 1 := if_neg (by omega)
      have e2 : cn (some (g, st, k)) = 1 := if_neg (by omega)
      omega
  by_cases hk : k = S
  · rw [if_pos hk]
    by_cases h1 : st = 1
    · subst h1
      refine (c_s1_yes h.ct (.inr (by omega)) (by omega) k (by omega) (by omega) (by simpa using hk.symm) M).mono ?_
      rintro e w' ⟨he, hC, hM, hF⟩
      exact ⟨⟨_, he⟩, hto 2 w' (by omega) (.inr (.inr ⟨rfl, hk, by omega⟩)) hC hM hF⟩
    · obtain rfl : st = 2 := by omega
      refine (c_s2 h.ct (.inr (by omega)) (by omega) k M).mono ?_
      rintro e w' ⟨he, hC, hM, hF⟩
      exact ⟨⟨_, he⟩, hto 2 w' (by omega) (.inr (.inr ⟨rfl, hk, by omega⟩)) hC hM hF⟩
  · rw [if_neg hk]
    obtain rfl : st = 1 := by omega
    refine (c_s1_no h.ct (.inr (by omega)) (by omega) k (by omega) (by omega) (by simpa using fun e => hk e.symm) M).mono ?_
    rintro e w' ⟨he, hC, hM, hF⟩
    exact ⟨⟨_, he⟩, hto 1 w' (by omega) (.inr (.inl ⟨rfl, by omega, by omega⟩)) hC hM hF⟩
/-- A thread's machine is made. -/
theorem ts_new {t : Nat} (h : TS w0 lo hi b rb q gp ga T S p w) (h3 : t ≤ 3) (hp : p t = none) : TS w0 lo hi b rb q gp ga T S (up p t (some (w.heap.size, 0, -1))) ((w.alloc (.cells #[.int .i64 0, .int .i64 (-1)] TT)).setCell ⟨ga, t, none⟩ (.pointer (some ⟨w.heap.size, 0, none⟩))) := by
  have hs := h.st
  have hcl := h.cl
  have hga := h.ar.lt
  have hF : Fr (fun x => x = ga) w ((w.alloc (.cells #[.int .i64 0, .int .i64 (-1)] TT)).setCell ⟨ga, t, none⟩ (.pointer (some ⟨w.heap.size, 0, none⟩))) := ((Fr.refl (fun x => x = ga) w).alloc _).set_ ⟨ga, t, none⟩ (.inl rfl) _
  have hnew : Mem ((w.alloc (.cells #[.int .i64 0, .int .i64 (-1)] TT)).setCell ⟨ga, t, none⟩ (.pointer (some ⟨w.heap.size, 0, none⟩))) w.heap.size TT (tBox 0 (-1)) := (Mem.new w TT (tBox 0 (-1))).far (a := ⟨ga, t, none⟩) (by show w.heap.size ≠ ga; omega) _
  refine ⟨h.ct.fr hF (fun g a c e => by omega) (fun g e => by omega), mem_fr h.pa hF (by omega), ?_, fun u h3' g st v hq => ?_, fun u h3' => ?_, up_two h3 h.di (fun u hu hne => ?_), fun j hj hjT => ?_, hs, hcl.1, ?_, hcl.2.2⟩
  · rw [aBox_up p h3]
    exact (h.ar.alloc (.cells #[.int .i64 0, .int .i64 (-1)] TT)).set_ t (.pointer (some ⟨w.heap.size, 0, none⟩))
  · by_cases e : u = t
    · subst e
      rw [up_at] at hq
      injection hq with hq
      injection hq with e1 hq
      injection hq with e2 e3
      subst e1 e2 e3
      exact ⟨hnew, hga⟩
    · rw [up_ne e] at hq
      obtain ⟨hm, hlt⟩ := h.en u h3' g st v hq
      exact ⟨mem_fr hm hF (by omega), hlt⟩
  · by_cases e : u = t
    · subst e
      rw [up_at]
      exact .inl ⟨rfl, rfl⟩
    · rw [up_ne e]
      exact h.ok u h3'
  · cases hq : p u with
    | none => trivial
    | some x =>
      obtain ⟨a, c, d⟩ := x
      refine ⟨?_, fun h1 => absurd h1 (by omega)⟩
      have := (h.en u hu a c d hq).1.lt
      omega
  · obtain ⟨u, g', st'', hu, hq, hst⟩ := h.hl j hj hjT
    refine ⟨u, g', st'', hu, ?_, hst⟩
    rw [up_ne (fun e => by subst e; rw [hp] at hq; cases hq)]
    exact hq
  · rw [cnt_up p h3, hp]
    have e1 : cn (some (w.heap.size, 0, -1)) = 0 := rfl
    have e2 : cn none = 0 := rfl
    omega
/-- A thread has passed its ticket on. -/
theorem ts_passed {t g : Nat} {k : Int} (h : TS w0 lo hi b rb q gp ga T S p w) (h3 : t ≤ 3) (hp : p t = some (g, 2, k)) (hct : Ct w0 lo hi b rb q T (k + 1) w') (hk : Stay lo hi w w') : TS w0 lo hi b rb q gp ga T (S + 1) (up p t none) (w'.setCell ⟨ga, t, none⟩ (.pointer none)) := by
  have hs := h.st
  have hcl := h.cl
  have hok := h.ok t h3
  rw [hp] at hok
  have hok : _ ∨ _ ∨ _ := hok
  have hkS : k = S := by omega
  subst hkS
  have hF0 := Fr.of_stay (P := fun x => PI lo hi x ∨ x = ga) hk (fun x a c => .inl ⟨a, c⟩)
  have hF := hF0.set_ ⟨ga, t, none⟩ (.inl (.inr rfl)) (.pointer none)
  refine ⟨hct.fr ((Fr.refl (fun x => x = ga) w').set_ ⟨ga, t, none⟩ (.inl rfl) _) (fun g a c e => by omega) (fun g e => by omega), mem_fr h.pa hF (by unfold PI; omega), ?_, fun u h3' g st v hq => ?_, fun u h3' => ?_, up_two h3 h.di (fun u hu hne => trivial), fun j hj hjT => ?_, hs, by omega, ?_, hcl.2.2⟩
  · rw [aBox_up p h3]
    exact (Mem.of_eq h.ar (hk.block ga h.ar.lt (.inr (by omega)))).set_ t (.pointer none)
  · by_cases e : u = t
    · subst e
      rw [up_at] at hq
      cases hq
    · rw [up_ne e] at hq
      obtain ⟨hm, hlt⟩ := h.en u h3' g st v hq
      exact ⟨mem_fr hm hF (by unfold PI; omega), hlt⟩
  · by_cases e : u = t
    · subst e
      rw [up_at]
      trivial
    · rw [up_ne e]
      have h2 := h.ok u h3'
      have h4 := h.di t u h3 h3' (Ne.symm e)
      rw [hp] at h4
      revert h2 h4
      cases p u with
      | none => exact fun _ _ => trivial
      | some x =>
        obtain ⟨a, c, d⟩ := x
        intro h2 h4
        have h2 : _ ∨ _ ∨ _ := h2
        show _ ∨ _ ∨ _
        have h5 : 1 ≤ c → k ≠ d := h4.2 (by omega)
        omega
  · obtain ⟨u, g', st'', hu, hq, hst⟩ := h.hl j (by omega) hjT
    refine ⟨u, g', st'', hu, ?_, hst⟩
    rw [up_ne (fun e => by
      subst e
      rw [hp] at hq
      injection hq with hq
      injection hq with e1 hq
      injection hq with e2 e3
      omega)]
    exact hq
  · rw [cnt_up p h3, hp]
    have e1 : cn (some (g, 2, k)) = 1 := rfl
    have e2 : cn none = 0 := rfl
    omega
theorem ts_image (h : TS w0 lo hi b rb q gp ga T S p w) : Calls Try.prog 26 #[.pointer (some ⟨b, 0, none⟩)] w fun e w' => ∃ (a1 a2 a3 a4 a5 : Option Addr) (n1 n2 n3 n4 n5 k1 k2 k3 k4 k5 : Nat) (c : Int), e = .returned (imgV (.slice a1 n1 k1) (.slice a2 n2 k2) c T S (.slice a3 n3 k3) (.slice a4 n4 k4) (.slice a5 n5 k5)) ∧ Below w0.heap.size w0 w' ∧ Stay lo hi w w' := by
  refine (c_image2 h.ct).mono ?_
  rintro e w' ⟨a1, a2, a3, a4, a5, n1, n2, n3, n4, n5, k1, k2, k3, k4, k5, c, he, hC, hT⟩
  exact ⟨a1, a2, a3, a4, a5, n1, n2, n3, n4, n5, k1, k2, k3, k4, k5, c, he, hC.old, hT⟩
/-- A thread that has the turn holds the ticket that is served. -/
theorem TS.has {t g : Nat} {k : Int} (h : TS w0 lo hi b rb q gp ga T S p w) (h3 : t ≤ 3) (hp : p t = some (g, 2, k)) : k = S := by
  have hok := h.ok t h3
  rw [hp] at hok
  have hok : _ ∨ _ ∨ _ := hok
  omega
end
end Go.Proofs.Ytpdmmblcjidekaa.TurC
