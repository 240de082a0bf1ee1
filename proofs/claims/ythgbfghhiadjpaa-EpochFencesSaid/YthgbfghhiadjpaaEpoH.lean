/-
  Both machines' fences, side by side: what holds of cells and boxes when the program's is in one state and the reference's in another.
-/
import Derived.Test.YthgbfghhiadjpaaEpoE
import Derived.Test.YthgbfghhiadjpaaEpoG
namespace Go.Proofs.Ythgbfghhiadjpaa.EpoH
open Go.ChangeShapes Go.WideShapes Go.ChangeAt Go.RowKit
open PlainT BlkW LayS LayA CelS CelM CelP CelV CelN CelO CelI CelY CelF LabD LabR LabP LabS EpoA EpoB EpoF EpoG LawFrame
set_option linter.unusedVariables false
set_option maxHeartbeats 1000000

theorem iat {w0 w : World} {A : Option Addr} {n : Nat} {z : List Int} (h : Ints .i64 w0 A n z) (ho : Below w0.heap.size w0 w) {k : Nat} (hk : k < n) : ∃ b off x, A = some ⟨b, off, none⟩ ∧ b < w0.heap.size ∧ w.cell? ⟨b, off + k, none⟩ = some (.int .i64 x) := by
  obtain ⟨h1, h2, h3⟩ := h
  obtain ⟨b, off, rfl, hb, hc⟩ := h3 (by omega)
  exact ⟨b, off, _, rfl, hb, (World.cell?_of_block (ho.block b hb)).trans (hc k hk)⟩
theorem k_at {w0 w : World} {A : Option Addr} {n : Nat} {z : List Int} (c : Nat) (h : Ints .i64 w0 A n z) (ho : Below w0.heap.size w0 w) (k : Nat) : Calls Try.prog 47 #[.slice A n c, .int .i64 k] w fun e w' => ∃ v, e = .returned (.int .i64 v) ∧ w = w' := by
  by_cases hk : k < n
  · obtain ⟨b, off, x, rfl, hb, hc⟩ := iat h ho hk
    have hkI : (k : Int) < n := by omega
    clear h ho hb
    go_enter Try.func47, Try.ntmps47
    go_wp2
    go_ret
    exact ⟨x, rfl, rfl⟩
  · have hkI : (n : Int) ≤ k := by omega
    clear h ho hk
    go_enter Try.func47, Try.ntmps47
    go_wp2
    go_ret
    exact ⟨0, rfl, rfl⟩

/-- A fence that has loaded nothing yet (none), or watches k (some k), over slots s at clock c. -/
abbrev Fst := Option Nat
def fL (c : Int) (f : Fst) : Int := match f with | none => -1 | some _ => c
def fK (f : Fst) : Int := match f with | none => 0 | some k => (k : Nat)
def fS (n : Nat) (f : Fst) : Int := match f with | none => 0 | some k => fsv n (k : Nat)
def sk (t k : Nat) : Nat := if k = t then k + 1 else k
theorem skp_nat (t k : Nat) : skp t k = (sk t k : Nat) := by
  unfold skp sk
  by_cases h : k = t
  · rw [if_pos (by omega), if_pos h]; omega
  · rw [if_neg (by omega), if_neg h]
def fGo (n t : Nat) (c : Int) (s : List Int) (f : Fst) : Fst := match f with
  | none => some (sk t 0)
  | some k => if n ≤ k then some k else if pass (s.getD k 0) c = true then some (sk t (k + 1)) else some k
def fV (n : Nat) (c : Int) (s : List Int) (f : Fst) : Int × Int × Int × Int × Int × Bool := match f with
  | none => (1, 3, 0, c, c, true)
  | some k => if n ≤ k then (0, 0, 0, 0, 0, false) else (1, 6, k, s.getD k 0, s.getD k 0, true)
def fOk (f : Fst) : Prop := match f with | none => True | some k => k ≤ 10
theorem fGo_ok {n t : Nat} (hn : n ≤ 4) {c : Int} {s : List Int} {f : Fst} (h : fOk f) : fOk (fGo n t c s f) := by
  match f, h with
  | none, h => show sk t 0 ≤ 10; unfold sk; split <;> omega
  | some k, h =>
    unfold fGo
    by_cases h1 : n ≤ k
    · simp only [if_pos h1]; exact h
    · simp only [if_neg h1]
      split
      · show sk t (k + 1) ≤ 10; unfold sk; split <;> omega
      · exact h
structure FS (w0 : World) (lo hi b rb : Nat) (q : Cfg) (n t : Nat) (c : Int) (s : List Int) (gp ga gb : Nat) (f f' : Fst) (w : World) : Prop where
  duo : ∃ A, Duo lo hi w b rb q A A ∧ A 3 = [c] ∧ A 6 = s
  pa : Mem w gp TP #[.pointer (some ⟨b, 0, none⟩), .pointer (some ⟨rb, 0, none⟩)]
  ma : Mem w ga 129 #[.int .i64 (fS n f), .int .i64 t, .int .i64 n, .int .i64 (fK f), .int .i64 (fL c f)]
  mb : Mem w gb 91 #[.int .i64 t, .int .i64 n, .int .i64 (fL c f'), .int .i64 (fK f')]
  old : Below w0.heap.size w0 w
  st : w0.heap.size ≤ lo ∧ lo ≤ hi ∧ hi ≤ gp ∧ gp < ga ∧ ga < gb
  ar : n ≤ 4 ∧ 0 ≤ c ∧ c ≤ 1099511627776 ∧ s.length = 4 ∧ ∀ j, 0 ≤ s.getD j 0 ∧ s.getD j 0 ≤ 1099511627778
  ok : fOk f ∧ fOk f'
section
variable {w0 w w' : World} {lo hi b rb gp ga gb : Nat} {q : Cfg} {n t : Nat} {c : Int} {s : List Int} {f f' : Fst} {P : Nat → Prop}
theorem FS.fr (h : FS w0 lo hi b rb q n t c s gp ga gb f f' w) (k : Fr P w w') (hp : ∀ g, P g → gb < g) : FS w0 lo hi b rb q n t c s gp ga gb f f' w' := by
  have hs := h.st
  obtain ⟨A, hd, h3, h6⟩ := h.duo
  exact ⟨⟨A, hd.fr k (fun g a d hx => by have := hp g hx; omega), h3, h6⟩, mem_fr h.pa k (fun hx => by have := hp gp hx; omega), mem_fr h.ma k (fun hx => by have := hp ga hx; omega), mem_fr h.mb k (fun hx => by have := hp gb hx; omega),
    k.after h.old (fun g hx => by have := hp g hx; omega) (Nat.le_refl _), h.st, h.ar, h.ok⟩
theorem FS.below (h : FS w0 lo hi b rb q n t c s gp ga gb f f' w) (k : Below w.heap.size w w') : FS w0 lo hi b rb q n t c s gp ga gb f f' w' := h.fr (P := fun _ => False) (Fr.of_below k) (fun _ => False.elim)
theorem FS.drewN (h : FS w0 lo hi b rb q n t c s gp ga gb f f' w) (m : Nat) : FS w0 lo hi b rb q n t c s gp ga gb f f' (w.drewN m) := h.below (below_drewN (Below.refl _ w) m)
theorem FS.drew (h : FS w0 lo hi b rb q n t c s gp ga gb f f' w) : FS w0 lo hi b rb q n t c s gp ga gb f f' w.drew := h.drewN 1
theorem FS.p0 (h : FS w0 lo hi b rb q n t c s gp ga gb f f' w) : w.cell? ⟨gp, 0, none⟩ = some (.pointer (some ⟨b, 0, none⟩)) := h.pa.cell 0
theorem FS.p1 (h : FS w0 lo hi b rb q n t c s gp ga gb f f' w) : w.cell? ⟨gp, 1, none⟩ = some (.pointer (some ⟨rb, 0, none⟩)) := h.pa.cell 1
theorem FS.rv (h : FS w0 lo hi b rb q n t c s gp ga gb f f' w) : w.cell? ⟨gb, 2, none⟩ = some (.int .i64 (fL c f')) := h.mb.cell 2
theorem fs_next (h : FS w0 lo hi b rb q n t c s gp ga gb f f' w) {A : Int → List Int} {f1 : Fst} (h3 : A 3 = [c]) (h6 : A 6 = s) (hd : Duo lo hi w' b rb q A A) (hm : Mem w' ga 129 #[.int .i64 (fS n f1), .int .i64 t, .int .i64 n, .int .i64 (fK f1), .int .i64 (fL c f1)]) (hF : Fr (PG lo hi ga) w w') (ho : fOk f1) : FS w0 lo hi b rb q n t c s gp ga gb f1 f' w' := by
  have hs := h.st
  exact ⟨⟨A, hd, h3, h6⟩, mem_fr h.pa hF (by unfold PG; omega), hm, mem_fr h.mb hF (by unfold PG; omega), hF.after h.old (fun g hx => by unfold PG at hx; omega) (Nat.le_refl _), hs, h.ar, ho, h.ok.2⟩
theorem fs_nextb (h : FS w0 lo hi b rb q n t c s gp ga gb f f' w) {A : Int → List Int} {f1 : Fst} (h3 : A 3 = [c]) (h6 : A 6 = s) (hd : Duo lo hi w' b rb q A A) (hm : Mem w' gb 91 #[.int .i64 t, .int .i64 n, .int .i64 (fL c f1), .int .i64 (fK f1)]) (hF : Fr (PG lo hi gb) w w') (ho : fOk f1) : FS w0 lo hi b rb q n t c s gp ga gb f f1 w' := by
  have hs := h.st
  exact ⟨⟨A, hd, h3, h6⟩, mem_fr h.pa hF (by unfold PG; omega), mem_fr h.ma hF (by unfold PG; omega), hm, hF.after h.old (fun g hx => by unfold PG at hx; omega) (Nat.le_refl _), hs, h.ar, h.ok.1, ho⟩
theorem fa_step (h : FS w0 lo hi b rb q n t c s gp ga gb f f' w) {k1 k2 k3 k4 k5 : Int} {d : Bool} (hv : Hid (fV n c s f = (k1, k2, k3, k4, k5, d))) :
    Calls Try.prog 53 #[.pointer (some ⟨ga, 0, none⟩), .pointer (some ⟨b, 0, none⟩)] w fun e w' => e = .returned (accV k1 k2 k3 k4 k5 d) ∧ FS w0 lo hi b rb q n t c s gp ga gb (fGo n t c s f) f' w' := by
  have hs := h.st
  obtain ⟨hn4, c0, c1, hl, hr⟩ := h.ar
  obtain ⟨A, hD, h3, h6⟩ := h.duo
  have hg : ga < lo ∨ hi ≤ ga := .inr (by omega)
  have ho := fGo_ok (n := n) (t := t) (c := c) (s := s) hn4 h.ok.1
  have hm := h.ma
  have hv := hv.out
  have hok := h.ok.1
  match f, h, hv, hm, ho, hok with
  | none, h, hv, hm, ho, hok =>
    cases hv
    refine (f_step0 hD hg t n c (by rw [h3]; exact Nat.zero_lt_one) (by rw [h3]; rfl) c0 c1 hm).mono ?_
    rintro e w' ⟨he, hD', hM, hF⟩
    refine ⟨he, fs_next h h3 h6 hD' ?_ hF ho⟩
    have e0 : skp t 0 = (sk t 0 : Nat) := skp_nat t 0
    rw [e0] at hM
    exact hM
  | some k, h, hv, hm, ho, hok =>
    by_cases h1 : n ≤ k
    · have e1 : fS n (some k) = 2 := if_pos (by omega)
      have e2 : fGo n t c s (some k) = some k := if_pos h1
      have e3 : fV n c s (some k) = (0, 0, 0, 0, 0, false) := if_pos h1
      rw [e3] at hv
      cases hv
      rw [e2] at ho ⊢
      rw [e1] at hm
      refine (f_step2 hD hg t n _ c hm).mono ?_
      rintro e w' ⟨he, hD', hM, hF⟩
      refine ⟨he, fs_next h h3 h6 hD' ?_ hF ho⟩
      rw [e1]
      exact hM
    · have e1 : fS n (some k) = 1 := if_neg (by omega)
      have e3 : fV n c s (some k) = ((1 : Int), (6 : Int), (k : Int), s.getD k 0, s.getD k 0, true) := if_neg h1
      rw [e3] at hv
      cases hv
      rw [e1] at hm
      have hk9 : k ≤ 900 := Nat.le_trans hok (by decide)
      by_cases hp : pass (s.getD k 0) c = true
      · have e2 : fGo n t c s (some k) = some (sk t (k + 1)) := by show (if n ≤ k then _ else _) = _; rw [if_neg h1, if_pos hp]
        rw [e2] at ho ⊢
        refine (f_step1_yes hD hg t n k (by rw [h6]; omega) _ (by rw [h6]) (hr k).1 (hr k).2 c c0 hk9 (Lib.hid hp) hm).mono ?_
        rintro e w' ⟨he, hD', hM, hF⟩
        refine ⟨he, fs_next h h3 h6 hD' ?_ hF ho⟩
        have e0 : skp t ((k : Int) + 1) = (sk t (k + 1) : Nat) := skp_nat t (k + 1)
        rw [e0] at hM
        exact hM
      · have e2 : fGo n t c s (some k) = some k := by show (if n ≤ k then _ else _) = _; rw [if_neg h1, if_neg hp]
        rw [e2] at ho ⊢
        refine (f_step1_no hD hg t n k (by rw [h6]; omega) _ (by rw [h6]) (hr k).1 (hr k).2 c c0 hk9 (Lib.hid (by simpa using hp)) hm).mono ?_
        rintro e w' ⟨he, hD', hM, hF⟩
        refine ⟨he, fs_next h h3 h6 hD' ?_ hF ho⟩
        rw [e1]
        exact hM
theorem fb_step (h : FS w0 lo hi b rb q n t c s gp ga gb f f' w) {k1 k2 k3 k4 k5 : Int} {d : Bool} (hv : Hid (fV n c s f' = (k1, k2, k3, k4, k5, d))) :
    Calls Try.prog 54 #[.pointer (some ⟨gb, 0, none⟩), .pointer (some ⟨rb, 0, none⟩)] w fun e w' => e = .returned (accV k1 k2 k3 k4 k5 d) ∧ FS w0 lo hi b rb q n t c s gp ga gb f (fGo n t c s f') w' := by
  have hs := h.st
  obtain ⟨hn4, c0, c1, hl, hr⟩ := h.ar
  obtain ⟨A, hD, h3, h6⟩ := h.duo
  have hg : gb < lo ∨ hi ≤ gb := .inr (by omega)
  have ho := fGo_ok (n := n) (t := t) (c := c) (s := s) hn4 h.ok.2
  have hm := h.mb
  have hv := hv.out
  have hok := h.ok.2
  match f', h, hv, hm, ho, hok with
  | none, h, hv, hm, ho, hok =>
    cases hv
    refine (g_step0 hD hg t n c (by rw [h3]; exact Nat.zero_lt_one) (by rw [h3]; rfl) c0 c1 hm).mono ?_
    rintro e w' ⟨he, hD', hM, hF⟩
    refine ⟨he, fs_nextb h h3 h6 hD' ?_ hF ho⟩
    have e0 : skp t 0 = (sk t 0 : Nat) := skp_nat t 0
    rw [e0] at hM
    exact hM
  | some k, h, hv, hm, ho, hok =>
    by_cases h1 : n ≤ k
    · have e2 : fGo n t c s (some k) = some k := if_pos h1
      have e3 : fV n c s (some k) = (0, 0, 0, 0, 0, false) := if_pos h1
      rw [e3] at hv
      cases hv
      rw [e2] at ho ⊢
      refine (g_step2 hD hg t n c k c0 (by omega) hm).mono ?_
      rintro e w' ⟨he, hD', hM, hF⟩
      exact ⟨he, fs_nextb h h3 h6 hD' hM hF ho⟩
    · have e3 : fV n c s (some k) = ((1 : Int), (6 : Int), (k : Int), s.getD k 0, s.getD k 0, true) := if_neg h1
      rw [e3] at hv
      cases hv
      have hk9 : k ≤ 900 := Nat.le_trans hok (by decide)
      by_cases hp : pass (s.getD k 0) c = true
      · have e2 : fGo n t c s (some k) = some (sk t (k + 1)) := by show (if n ≤ k then _ else _) = _; rw [if_neg h1, if_pos hp]
        rw [e2] at ho ⊢
        refine (g_step1_yes hD hg t n k (by rw [h6]; omega) _ (by rw [h6]) (hr k).1 (hr k).2 c c0 c1 (by omega) hk9 (Lib.hid hp) hm).mono ?_
        rintro e w' ⟨he, hD', hM, hF⟩
        refine ⟨he, fs_nextb h h3 h6 hD' ?_ hF ho⟩
        have e0 : skp t ((k : Int) + 1) = (sk t (k + 1) : Nat) := skp_nat t (k + 1)
        rw [e0] at hM
        exact hM
      · have e2 : fGo n t c s (some k) = some k := by show (if n ≤ k then _ else _) = _; rw [if_neg h1, if_neg hp]
        rw [e2] at ho ⊢
        refine (g_step1_no hD hg t n k (by rw [h6]; omega) _ (by rw [h6]) (hr k).1 (hr k).2 c c0 c1 (by omega) hk9 (Lib.hid (by simpa using hp)) hm).mono ?_
        rintro e w' ⟨he, hD', hM, hF⟩
        exact ⟨he, fs_nextb h h3 h6 hD' hM hF ho⟩
theorem fab_same (h : FS w0 lo hi b rb q n t c s gp ga gb f f' w) : Calls Try.prog 43 #[pairV b rb] w fun e w' => e = .returned (.bool true) ∧ FS w0 lo hi b rb q n t c s gp ga gb f f' w' := by
  have hs := h.st
  obtain ⟨A, hD, h3, h6⟩ := h.duo
  refine (p_same hD).mono ?_
  rintro e w' ⟨he, hD', hS⟩
  have hF := Fr.of_stay (P := PI lo hi) hS (fun x a c => ⟨a, c⟩)
  exact ⟨he, ⟨A, hD', h3, h6⟩, mem_fr h.pa hF (by unfold PI; omega), mem_fr h.ma hF (by unfold PI; omega), mem_fr h.mb hF (by unfold PI; omega), hF.after h.old (fun g hx => by unfold PI at hx; omega) (Nat.le_refl _), hs, h.ar, h.ok⟩
theorem fab_set (h : FS w0 lo hi b rb q n t c s gp ga gb f f' w) (j : Nat) (hj : j < 4) (v : Int) (v0 : 0 ≤ v) (v1 : v ≤ 8) : Calls Try.prog 35 #[pairV b rb, .int .i64 6, .int .i64 j, .int .u64 v] w fun e w' => e = .returned (.bool true) ∧ FS w0 lo hi b rb q n t c (s.set j v) gp ga gb f f' w' := by
  have hs := h.st
  obtain ⟨A, hD, h3, h6⟩ := h.duo
  obtain ⟨hn4, c0, c1, hl, hr⟩ := h.ar
  have hset := p_set hD 6 (by decide) j (by rw [h6, hl]; exact hj) (by rw [h6, hl]; exact hj) _ rfl rfl v
  refine hset.mono ?_
  rintro e w' ⟨he, hD', hS⟩
  have hF := Fr.of_stay (P := PI lo hi) hS (fun x a c => ⟨a, c⟩)
  refine ⟨he, ⟨_, hD', by rw [upd_ne (by decide), h3], by simp [upd, h6]⟩, mem_fr h.pa hF (by unfold PI; omega), mem_fr h.ma hF (by unfold PI; omega), mem_fr h.mb hF (by unfold PI; omega), hF.after h.old (fun g hx => by unfold PI at hx; omega) (Nat.le_refl _), hs, ⟨hn4, c0, c1, by simpa using hl, fun i => ?_⟩, h.ok⟩
  by_cases hij : i = j
  · subst hij
    rw [List.getD_eq_getElem?_getD, List.getElem?_set_self (by omega)]
    show 0 ≤ v ∧ v ≤ _
    omega
  · rw [List.getD_eq_getElem?_getD, List.getElem?_set_ne (Ne.symm hij), ← List.getD_eq_getElem?_getD]
    exact hr i
theorem fs_state {f : Fst} {n : Nat} {c : Int} (c0 : 0 ≤ c) : (fS n f == 2) = decide (0 ≤ fL c f ∧ (n : Int) ≤ fK f) := by
  match f with
  | none => rfl
  | some k =>
    show (fsv n k == 2) = decide (0 ≤ c ∧ (n : Int) ≤ k)
    unfold fsv
    by_cases h : (n : Int) ≤ k
    · rw [if_pos h, decide_eq_true ⟨c0, h⟩]; rfl
    · rw [if_neg h, decide_eq_false (by omega)]; rfl
theorem fa_done (h : FS w0 lo hi b rb q n t c s gp ga gb f f' w) : Calls Try.prog 50 #[.pointer (some ⟨ga, 0, none⟩)] w fun e w' => e = .returned (.bool (fS n f == 2)) ∧ w = w' := f_done ga _ _ _ _ _ w h.ma
theorem fb_done (h : FS w0 lo hi b rb q n t c s gp ga gb f f' w) : Calls Try.prog 51 #[.pointer (some ⟨gb, 0, none⟩)] w fun e w' => e = .returned (.bool (fS n f' == 2)) ∧ FS w0 lo hi b rb q n t c s gp ga gb f f' w' := by
  refine (g_done gb _ _ _ _ w h.mb _ (Lib.hid (fs_state h.ar.2.1))).mono ?_
  rintro e w' ⟨he, m, rfl⟩
  exact ⟨he, h.drewN m⟩
theorem fa_limit (h : FS w0 lo hi b rb q n t c s gp ga gb f f' w) : Calls Try.prog 52 #[.pointer (some ⟨ga, 0, none⟩)] w fun e w' => e = .returned (.int .i64 (fL c f)) ∧ w = w' := f_limit ga _ _ _ _ _ w h.ma
end
end Go.Proofs.Ythgbfghhiadjpaa.EpoH
