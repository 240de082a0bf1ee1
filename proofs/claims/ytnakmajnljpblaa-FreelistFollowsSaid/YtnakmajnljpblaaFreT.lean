/-
  Four threads' machines at work on the lists: what holds of cells and boxes.
-/
import Derived.Test.YtnakmajnljpblaaFreL
namespace Go.Proofs.Ytnakmajnljpblaa.FreT
open Go.ChangeShapes Go.WideShapes Go.ChangeAt Go.RowKit
open LawFrame PlainT BlkW LayS LayA CelS CelM CelP CelV CelN CelO CelI CelY CelQ LabD LabR LabP LabS LabT FreP FreQ FreV FreC FreI FreA FreB FreS FreW
set_option linter.unusedVariables false
set_option maxHeartbeats 1000000

theorem iat {w0 w : World} {A : Option Addr} {n : Nat} {z : List Int} (h : Ints .i64 w0 A n z) (ho : Below w0.heap.size w0 w) {k : Nat} (hk : k < n) : ∃ b off x, A = some ⟨b, off, none⟩ ∧ b < w0.heap.size ∧ w.cell? ⟨b, off + k, none⟩ = some (.int .i64 x) := by
  obtain ⟨h1, h2, h3⟩ := h
  obtain ⟨b, off, rfl, hb, hc⟩ := h3 (by omega)
  exact ⟨b, off, _, rfl, hb, (World.cell?_of_block (ho.block b hb)).trans (hc k hk)⟩
theorem k_at {w0 w : World} {A : Option Addr} {n : Nat} {z : List Int} (c : Nat) (h : Ints .i64 w0 A n z) (ho : Below w0.heap.size w0 w) (k : Nat) : Calls Try.prog 17 #[.slice A n c, .int .i64 k] w fun e w' => ∃ v, e = .returned (.int .i64 v) ∧ w = w' := by
  by_cases hk : k < n
  · obtain ⟨b, off, x, rfl, hb, hc⟩ := iat h ho hk
    have hkI : (k : Int) < n := by omega
    clear h ho hb
    go_enter Try.func17, Try.ntmps17
    go_wp2
    go_ret
    exact ⟨x, rfl, rfl⟩
  · have hkI : (n : Int) ≤ k := by omega
    clear h ho hk
    go_enter Try.func17, Try.ntmps17
    go_wp2
    go_ret
    exact ⟨0, rfl, rfl⟩
def gOf : Th → Option Nat
  | .idle => none
  | .pop g _ _ _ _ => some g
  | .push g _ _ _ _ => some g
/-- A machine's box. -/
def mbox (w : World) : Th → Prop
  | .idle => True
  | .pop g st c x n => st ≤ 3 ∧ ∃ bl : Int, (st ≤ 2 → bl = -1) ∧ Mem w g TP1 (oBox st c x n bl)
  | .push g st c b x => st ≤ 2 ∧ Mem w g TP2 (uBox st c b x)
structure Core (w0 : World) (lo hi b rb : Nat) (tw : Bool) (bs : Nat) (K : Int) (T : Nat → Int) (L : Nat → List Nat) (N : List Int) (held : List Nat) (p : Nat → Th) (w : World) : Prop where
  fl : Fl w0 lo hi b rb tw T L N w
  inv : Inv K T L N held p
  hb : hi ≤ bs
  en : ∀ t, t ≤ 3 → mbox w (p t)
  gb : ∀ t g, t ≤ 3 → gOf (p t) = some g → bs ≤ g
  di : ∀ t u g, t ≤ 3 → u ≤ 3 → t ≠ u → gOf (p t) = some g → gOf (p u) ≠ some g
section
variable {w0 w w' : World} {lo hi b rb bs : Nat} {tw : Bool} {K K' : Int} {T T' : Nat → Int} {L L' : Nat → List Nat} {N N' : List Int} {held held' : List Nat} {p : Nat → Th} {P : Nat → Prop} {t g : Nat} {o : Th}
theorem mbox_lt (h : mbox w o) (hg : gOf o = some g) : g < w.heap.size := by
  cases o with
  | idle => cases hg
  | pop g' st c x n =>
    obtain ⟨_, bl, _, hm⟩ := h
    injection hg with hg
    subst hg
    exact hm.lt
  | push g' st c bk x =>
    injection hg with hg
    subst hg
    exact h.2.lt
theorem mbox_fr (h : mbox w o) (k : Fr P w w') (hq : ∀ g, gOf o = some g → ¬ P g) : mbox w' o := by
  cases o with
  | idle => trivial
  | pop g' st c x n =>
    obtain ⟨h1, bl, h2, hm⟩ := h
    exact ⟨h1, bl, h2, mem_fr hm k (hq _ rfl)⟩
  | push g' st c bk x => exact ⟨h.1, mem_fr h.2 k (hq _ rfl)⟩
theorem Core.fr (h : Core w0 lo hi b rb tw bs K T L N held p w) (k : Fr P w w') (hp : ∀ g, lo ≤ g → g < hi → ¬ P g) (h0 : ∀ g, P g → w0.heap.size ≤ g) (hq : ∀ t g, t ≤ 3 → gOf (p t) = some g → ¬ P g) : Core w0 lo hi b rb tw bs K T L N held p w' :=
  ⟨h.fl.fr k hp h0, h.inv, h.hb, fun t ht => mbox_fr (h.en t ht) k fun g hg => hq t g ht hg, h.gb, h.di⟩
theorem Core.below (h : Core w0 lo hi b rb tw bs K T L N held p w) (k : Below w.heap.size w w') : Core w0 lo hi b rb tw bs K T L N held p w' :=
  h.fr (P := fun _ => False) (Fr.of_below k) (fun _ _ _ => id) (fun _ => False.elim) fun _ _ _ _ => id
theorem Core.drewN (h : Core w0 lo hi b rb tw bs K T L N held p w) (n : Nat) : Core w0 lo hi b rb tw bs K T L N held p (w.drewN n) := h.below (below_drewN (Below.refl _ w) n)
/-- What is turned but blocks below the machines' boxes, or boxes that no machine has, leaves all as it was. -/
theorem Core.side (h : Core w0 lo hi b rb tw bs K T L N held p w) (k : Fr P w w') (hp : ∀ g, P g → hi ≤ g ∧ w0.heap.size ≤ g ∧ (g < bs ∨ ∀ t, t ≤ 3 → gOf (p t) ≠ some g)) : Core w0 lo hi b rb tw bs K T L N held p w' :=
  h.fr k (fun g h1 h2 h3 => by have := (hp g h3).1; omega) (fun g h3 => (hp g h3).2.1) fun t g ht hg h3 => by
    rcases (hp g h3).2.2 with h4 | h4
    · have := h.gb t g ht hg; omega
    · exact h4 t ht hg
theorem di_up (h : ∀ t u g, t ≤ 3 → u ≤ 3 → t ≠ u → gOf (p t) = some g → gOf (p u) ≠ some g) (ht : t ≤ 3) (ho : ∀ g, gOf o = some g → ∀ u, u ≤ 3 → u ≠ t → gOf (p u) ≠ some g) : ∀ a u g, a ≤ 3 → u ≤ 3 → a ≠ u → gOf (up p t o a) = some g → gOf (up p t o u) ≠ some g := by
  intro a u g ha hu hne hg hg2
  by_cases e1 : a = t
  · subst e1
    rw [up_at] at hg
    rw [up_ne (Ne.symm hne)] at hg2
    exact ho g hg u hu (Ne.symm hne) hg2
  · rw [up_ne e1] at hg
    by_cases e2 : u = t
    · subst e2
      rw [up_at] at hg2
      exact ho g hg2 a ha e1 hg
    · rw [up_ne e2] at hg2
      exact h a u g ha hu hne hg hg2
/-- A thread's machine makes a step, or gives way. -/
theorem core_step (h : Core w0 lo hi b rb tw bs K T L N held p w) (ht : t ≤ 3) (hF : Fr P w w') (hP : ∀ u g', u ≤ 3 → u ≠ t → gOf (p u) = some g' → ¬ P g') (hfl : Fl w0 lo hi b rb tw T' L' N' w') (hinv : Inv K' T' L' N' held' (up p t o)) (hm : mbox w' o) (ho : ∀ g', gOf o = some g' → gOf (p t) = some g') :
    Core w0 lo hi b rb tw bs K' T' L' N' held' (up p t o) w' := by
  refine ⟨hfl, hinv, h.hb, fun u hu => ?_, fun u g' hu hg => ?_, di_up h.di ht fun g' hg u hu hne => h.di t u g' ht hu (Ne.symm hne) (ho g' hg)⟩
  · by_cases e : u = t
    · subst e
      rw [up_at]
      exact hm
    · rw [up_ne e]
      exact mbox_fr (h.en u hu) hF fun g' hg => hP u g' hu e hg
  · by_cases e : u = t
    · subst e
      rw [up_at] at hg
      exact h.gb u g' hu (ho g' hg)
    · rw [up_ne e] at hg
      exact h.gb u g' hu hg
/-- A thread begins with a new machine. -/
theorem core_new (h : Core w0 lo hi b rb tw bs K T L N held p w) (ht : t ≤ 3) (hb : Below w.heap.size w w') (hbs : bs ≤ w.heap.size) (hg : w.heap.size ≤ g) (ho : gOf o = some g) (hm : mbox w' o) (hinv : Inv K T L N held' (up p t o)) :
    Core w0 lo hi b rb tw bs K T L N held' (up p t o) w' := by
  refine ⟨h.fl.below hb, hinv, h.hb, fun u hu => ?_, fun u g' hu hg' => ?_, di_up h.di ht fun g' hg' u hu hne hq => ?_⟩
  · by_cases e : u = t
    · subst e
      rw [up_at]
      exact hm
    · rw [up_ne e]
      exact mbox_fr (P := fun _ => False) (h.en u hu) (Fr.of_below hb) fun _ _ => id
  · by_cases e : u = t
    · subst e
      rw [up_at, ho] at hg'
      injection hg' with hg'
      omega
    · rw [up_ne e] at hg'
      exact h.gb u g' hu hg'
  · rw [ho] at hg'
    injection hg' with hg'
    have := mbox_lt (h.en u hu) hq
    omega
theorem rest_lens {A A' : Int → List Int} (h : FreS.Rest A A') (hl : (A 3).length = 1 ∧ (A 4).length = 1 ∧ (A 5).length = 1) : (A' 3).length = 1 ∧ (A' 4).length = 1 ∧ (A' 5).length = 1 := by
  obtain ⟨h3, h4, h5⟩ := h
  rw [h3, h4, h5]
  exact hl
/-- What a pop's step leaves, whoever made it. -/
theorem core_popped {st c : Nat} {x n : Int} {k1 k2 k3 : Int} {d : Bool} {st' : Nat} {x' n' bl' : Int} {p' : Nat → Th} (h : Core w0 lo hi b rb tw bs K T L N held p w) (ht : t ≤ 3) (hp : p t = .pop g st c x n) (hF : Fr P w w') (hP : ∀ u g', u ≤ 3 → u ≠ t → gOf (p u) = some g' → ¬ P g') (hfl : Fl w0 lo hi b rb tw T' L' N w') (hinv : Inv K' T' L' N held' p') (hm : Mem w' g TP1 (oBox st' c x' n' bl')) (ho : PopOut K T L N held p t g c k1 k2 k3 d st' x' n' bl' T' L' held' p') :
    Core w0 lo hi b rb tw bs K' T' L' N held' p' w' := by
  have ho' := ho
  rcases ho with ⟨h1, h2, rfl, rfl, rfl, rfl, _⟩ | ⟨h1, h2, _, rfl, rfl, rfl, rfl, _⟩ | ⟨h1, l, blk, _, _, rfl, rfl, rfl, rfl, _⟩
  · exact core_step h ht hF hP hfl hinv ⟨by omega, bl', fun _ => h2, hm⟩ fun g' hg => by rw [hp]; exact hg
  · exact core_step h ht hF hP hfl hinv trivial fun g' hg => by cases hg
  · exact core_step h ht hF hP hfl hinv trivial fun g' hg => by cases hg
theorem core_pop {st c : Nat} {x n : Int} (h : Core w0 lo hi b rb false bs K T L N held p w) (hK : K ≤ 1000000) (hlo : w0.heap.size ≤ lo) (hle : lo ≤ hi) (ht : t ≤ 3) (hp : p t = .pop g st c x n) (hst : st ≤ 2) :
    Calls Try.prog 20 #[.pointer (some ⟨g, 0, none⟩), .pointer (some ⟨b, 0, none⟩)] w fun e w' => ∃ (k1 k2 k3 k4 k5 : Int) (d : Bool) (st' : Nat) (x' n' bl' : Int) (T' : Nat → Int) (L' : Nat → List Nat) (held' : List Nat) (p' : Nat → Th),
      e = .returned (accV k1 k2 k3 k4 k5 d) ∧ Fr (PG lo hi g) w w' ∧ Mem w' g TP1 (oBox st' c x' n' bl') ∧ Core w0 lo hi b rb false bs (K + 1) T' L' N held' p' w' ∧ PopOut K T L N held p t g c k1 k2 k3 d st' x' n' bl' T' L' held' p' := by
  have hgb := h.gb t g ht (by rw [hp]; rfl)
  have hhb := h.hb
  obtain ⟨A, B, hd, h7, h8, h3, h4, h5, htw⟩ := h.fl.duo
  have hm := h.en t ht
  rw [hp] at hm
  obtain ⟨_, bl, hbl, hm⟩ := hm
  obtain rfl := hbl hst
  obtain ⟨A', k1, k2, k3, k4, k5, d, st', x', n', bl', T', L', held', p', hpl, _, h7', h8', hR, hI', hO⟩ := pop_plan (lo := lo) (hi := hi) (b := b) (rb := rb) (y := hi) h7 h8 h.inv hK ht hp hst (.inr (by omega)) (.inr (Nat.le_refl _))
  refine (hpl B w hd hm).mono ?_
  rintro e w' ⟨he, hD, hM, hF⟩
  have hl := rest_lens hR ⟨h3, h4, h5⟩
  refine ⟨k1, k2, k3, k4, k5, d, st', x', n', bl', T', L', held', p', he, hF, hM, core_popped h ht hp hF (fun u g' hu hne hg hx => ?_) ⟨⟨A', B, hD, h7', h8', hl.1, hl.2.1, hl.2.2, fun h => by cases h⟩, h.fl.lo, hF.after h.fl.old (fun x hx => by unfold PG at hx; omega) (Nat.le_refl _)⟩ hI' hM hO, hO⟩
  have h1 := h.gb u g' hu hg
  have h2 := h.di u t g' hu ht hne hg
  rw [hp] at h2
  unfold PG at hx
  rcases hx with hx | hx
  · omega
  · exact h2 (by rw [hx]; rfl)
theorem core_pushed {st c bk : Nat} {x : Int} {st' : Nat} {x' : Int} {p' : Nat → Th} (h : Core w0 lo hi b rb tw bs K T L N held p w) (ht : t ≤ 3) (hp : p t = .push g st c bk x) (hF : Fr P w w') (hP : ∀ u g', u ≤ 3 → u ≠ t → gOf (p u) = some g' → ¬ P g') (hfl : Fl w0 lo hi b rb tw T' L' N' w') (hinv : Inv K' T' L' N' held p') (hm : Mem w' g TP2 (uBox st' c bk x')) (ho : PushOut T L N p t g c bk st' x' T' L' N' p') :
    Core w0 lo hi b rb tw bs K' T' L' N' held p' w' := by
  rcases ho with ⟨h1, rfl, rfl, rfl⟩ | ⟨h1, rfl, rfl, rfl, rfl⟩
  · exact core_step h ht hF hP hfl hinv ⟨h1, hm⟩ fun g' hg => by rw [hp]; exact hg
  · exact core_step h ht hF hP hfl hinv trivial fun g' hg => by cases hg
theorem core_push {st c bk : Nat} {x : Int} (h : Core w0 lo hi b rb false bs K T L N held p w) (hK : K ≤ 1000000) (hlo : w0.heap.size ≤ lo) (hle : lo ≤ hi) (ht : t ≤ 3) (hp : p t = .push g st c bk x) :
    Calls Try.prog 24 #[.pointer (some ⟨g, 0, none⟩), .pointer (some ⟨b, 0, none⟩)] w fun e w' => ∃ (v : Value) (st' : Nat) (x' : Int) (T' : Nat → Int) (L' : Nat → List Nat) (N' : List Int) (p' : Nat → Th),
      e = .returned v ∧ Fr (PG lo hi g) w w' ∧ Mem w' g TP2 (uBox st' c bk x') ∧ Core w0 lo hi b rb false bs (K + 1) T' L' N' held p' w' ∧ PushOut T L N p t g c bk st' x' T' L' N' p' := by
  have hgb := h.gb t g ht (by rw [hp]; rfl)
  have hhb := h.hb
  obtain ⟨A, B, hd, h7, h8, h3, h4, h5, htw⟩ := h.fl.duo
  have hm := h.en t ht
  rw [hp] at hm
  obtain ⟨hst, hm⟩ := hm
  obtain ⟨A', k1, k2, k3, k4, k5, d, st', x', T', L', N', p', hpl, _, h7', h8', hR, hI', hO⟩ := push_plan (lo := lo) (hi := hi) (b := b) (rb := rb) (y := hi) h7 h8 h.inv hK ht hp hst (.inr (by omega)) (.inr (Nat.le_refl _))
  refine (hpl B w hd hm).mono ?_
  rintro e w' ⟨he, hD, hM, hF⟩
  have hl := rest_lens hR ⟨h3, h4, h5⟩
  refine ⟨_, st', x', T', L', N', p', he, hF, hM, core_pushed h ht hp hF (fun u g' hu hne hg hx => ?_) ⟨⟨A', B, hD, h7', h8', hl.1, hl.2.1, hl.2.2, fun h => by cases h⟩, h.fl.lo, hF.after h.fl.old (fun x hx => by unfold PG at hx; omega) (Nat.le_refl _)⟩ hI' hM hO, hO⟩
  have h1 := h.gb u g' hu hg
  have h2 := h.di u t g' hu ht hne hg
  rw [hp] at h2
  unfold PG at hx
  rcases hx with hx | hx
  · omega
  · exact h2 (by rw [hx]; rfl)
end
end Go.Proofs.Ytnakmajnljpblaa.FreT
