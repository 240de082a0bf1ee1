/-
  Both machines that enter, side by side: what holds of cells and boxes when the program's has made i steps and the reference's j.
-/
import Derived.Test.YthgbfghhiadjpaaEpoL
import Derived.Test.YthgbfghhiadjpaaEpoB
namespace Go.Proofs.Ythgbfghhiadjpaa.EpoE
open Go.ChangeShapes Go.WideShapes Go.ChangeAt Go.RowKit
open PlainT BlkW LayS LayA CelS CelM CelP CelV CelN CelO CelI CelY CelF LabD LabR LabP LabS EpoA EpoB
set_option linter.unusedVariables false
set_option maxHeartbeats 1000000

/-- The cells, the state, the snapshot, the access of the step number i. -/
def eA (A : Int → List Int) (t : Nat) (c : Int) (i : Nat) : Int → List Int := if i = 0 then A else if i ≤ 2 then upd A 6 t 1 else upd (upd A 6 t 1) 6 t (c + 2)
def eS (i : Nat) : Int := if i ≤ 3 then i else 3
def eN (c : Int) (i : Nat) : Int := if i ≤ 1 then -1 else c
def eV (A : Int → List Int) (t : Nat) (c : Int) (i : Nat) : Int × Int × Int × Int × Int × Bool :=
  if i = 0 then (2, 6, t, (A 6).getD t 0, 1, true) else if i = 1 then (1, 3, 0, c, c, true) else if i = 2 then (2, 6, t, 1, c + 2, true) else (0, 0, 0, 0, 0, false)
theorem eA_len (A : Int → List Int) (t : Nat) (c : Int) (i : Nat) (k : Int) : (eA A t c i k).length = (A k).length := by
  unfold eA
  split
  · rfl
  · split <;> simp [upd_len]
theorem duo_le {lo hi b rb : Nat} {w : World} {q : Cfg} {A B : Int → List Int} (h : Duo lo hi w b rb q A B) : lo ≤ hi := by
  obtain ⟨m1, m2, h1, h2, hm, _⟩ := h
  have := Is.le h1
  have := RefIs.le h2
  omega
structure ES (w0 : World) (lo hi b rb : Nat) (q : Cfg) (A : Int → List Int) (t : Nat) (c : Int) (gp ga gb : Nat) (i j : Nat) (w : World) : Prop where
  duo : Duo lo hi w b rb q (eA A t c i) (eA A t c j)
  pa : Mem w gp TP #[.pointer (some ⟨b, 0, none⟩), .pointer (some ⟨rb, 0, none⟩)]
  ma : Mem w ga 123 #[.int .i64 (eS i), .int .i64 t, .int .i64 (eN c i)]
  mb : Mem w gb 78 #[.int .i64 t, .int .i64 (eS j), .int .i64 (eN c j)]
  old : Below w0.heap.size w0 w
  st : w0.heap.size ≤ lo ∧ lo ≤ hi ∧ hi ≤ gp ∧ gp < ga ∧ ga < gb
  ar : t < (A 6).length ∧ A 3 = [c] ∧ 0 ≤ c ∧ c ≤ 1099511627776
section
variable {w0 w w' : World} {lo hi b rb gp ga gb : Nat} {q : Cfg} {A : Int → List Int} {t i j : Nat} {c : Int} {P : Nat → Prop}
theorem ES.fr (h : ES w0 lo hi b rb q A t c gp ga gb i j w) (k : Fr P w w') (hp : ∀ g, P g → gb < g) : ES w0 lo hi b rb q A t c gp ga gb i j w' := by
  have hs := h.st
  exact ⟨h.duo.fr k (fun g a d hx => by have := hp g hx; omega), mem_fr h.pa k (fun hx => by have := hp gp hx; omega), mem_fr h.ma k (fun hx => by have := hp ga hx; omega), mem_fr h.mb k (fun hx => by have := hp gb hx; omega),
    k.after h.old (fun g hx => by have := hp g hx; omega) (Nat.le_refl _), h.st, h.ar⟩
theorem ES.below (h : ES w0 lo hi b rb q A t c gp ga gb i j w) (k : Below w.heap.size w w') : ES w0 lo hi b rb q A t c gp ga gb i j w' := h.fr (P := fun _ => False) (Fr.of_below k) (fun _ => False.elim)
theorem ES.drew (h : ES w0 lo hi b rb q A t c gp ga gb i j w) : ES w0 lo hi b rb q A t c gp ga gb i j w.drew := h.below (below_drewN (Below.refl _ w) 1)
theorem ES.p0 (h : ES w0 lo hi b rb q A t c gp ga gb i j w) : w.cell? ⟨gp, 0, none⟩ = some (.pointer (some ⟨b, 0, none⟩)) := h.pa.cell 0
theorem ES.p1 (h : ES w0 lo hi b rb q A t c gp ga gb i j w) : w.cell? ⟨gp, 1, none⟩ = some (.pointer (some ⟨rb, 0, none⟩)) := h.pa.cell 1
theorem ES.rv (h : ES w0 lo hi b rb q A t c gp ga gb i j w) : w.cell? ⟨gb, 2, none⟩ = some (.int .i64 (eN c j)) := h.mb.cell 2
theorem es_next {w0 w w' : World} {s : ES w0 lo hi b rb q A t c gp ga gb i j w} {i' : Nat} (hd : Duo lo hi w' b rb q (eA A t c i') (eA A t c j)) (hm : Mem w' ga 123 #[.int .i64 (eS i'), .int .i64 t, .int .i64 (eN c i')]) (hF : Fr (PG lo hi ga) w w') : ES w0 lo hi b rb q A t c gp ga gb i' j w' := by
  have hs := s.st
  exact ⟨hd, mem_fr s.pa hF (by unfold PG; omega), hm, mem_fr s.mb hF (by unfold PG; omega), hF.after s.old (fun g hx => by unfold PG at hx; omega) (Nat.le_refl _), hs, s.ar⟩
theorem es_nextb {w0 w w' : World} {s : ES w0 lo hi b rb q A t c gp ga gb i j w} {j' : Nat} (hd : Duo lo hi w' b rb q (eA A t c i) (eA A t c j')) (hm : Mem w' gb 78 #[.int .i64 t, .int .i64 (eS j'), .int .i64 (eN c j')]) (hF : Fr (PG lo hi gb) w w') : ES w0 lo hi b rb q A t c gp ga gb i j' w' := by
  have hs := s.st
  exact ⟨hd, mem_fr s.pa hF (by unfold PG; omega), mem_fr s.ma hF (by unfold PG; omega), hm, hF.after s.old (fun g hx => by unfold PG at hx; omega) (Nat.le_refl _), hs, s.ar⟩
theorem upd_self {A : Int → List Int} {k : Int} {i : Nat} {v : Int} (hi : i < (A k).length) : (upd A k i v k).getD i 0 = v := by
  unfold upd
  rw [if_pos rfl, List.getD_eq_getElem?_getD, List.getElem?_set_self hi]
  rfl
theorem a_step (s : ES w0 lo hi b rb q A t c gp ga gb i j w) {k1 k2 k3 k4 k5 : Int} {d : Bool} (hv : Hid (eV A t c i = (k1, k2, k3, k4, k5, d))) :
    Calls Try.prog 41 #[.pointer (some ⟨ga, 0, none⟩), .pointer (some ⟨b, 0, none⟩)] w fun e w' => e = .returned (accV k1 k2 k3 k4 k5 d) ∧ ES w0 lo hi b rb q A t c gp ga gb (i + 1) j w' := by
  have hs := s.st
  obtain ⟨ht, h3, c0, c1⟩ := s.ar
  have hg : ga < lo ∨ hi ≤ ga := .inr (by omega)
  have hv := hv.out
  have : i = 0 ∨ i = 1 ∨ i = 2 ∨ 3 ≤ i := by omega
  rcases this with rfl | rfl | rfl | h
  · cases hv
    refine (e_step0 s.duo hg (-1) t ht _ rfl s.ma).mono ?_
    rintro e w' ⟨he, hD, hM, hF⟩
    exact ⟨he, es_next (s := s) hD hM hF⟩
  · cases hv
    refine (e_step1 s.duo hg t (-1) c (by rw [eA_len, h3]; exact Nat.zero_lt_one) (by show (upd A 6 t 1 3).getD 0 0 = c; rw [upd_ne (by decide), h3]; rfl) c0 c1 s.ma).mono ?_
    rintro e w' ⟨he, hD, hM, hF⟩
    exact ⟨he, es_next (s := s) hD hM hF⟩
  · cases hv
    refine (e_step2 s.duo hg t (by rw [eA_len]; exact ht) 1 (by show (upd A 6 t 1 6).getD t 0 = 1; exact upd_self ht) c c0 c1 s.ma).mono ?_
    rintro e w' ⟨he, hD, hM, hF⟩
    exact ⟨he, es_next (s := s) hD hM hF⟩
  · have e1 : eV A t c i = (0, 0, 0, 0, 0, false) := by unfold eV; rw [if_neg (by omega), if_neg (by omega), if_neg (by omega)]
    have e2 : eS i = 3 ∧ eS (i + 1) = 3 := by unfold eS; constructor <;> split <;> omega
    have e3 : eN c i = c ∧ eN c (i + 1) = c := by unfold eN; rw [if_neg (by omega), if_neg (by omega)]; exact ⟨rfl, rfl⟩
    have e4 : eA A t c (i + 1) = eA A t c i := by unfold eA; rw [if_neg (by omega), if_neg (by omega), if_neg (by omega), if_neg (by omega)]
    rw [e1] at hv
    cases hv
    have hm := s.ma
    rw [e2.1, e3.1] at hm
    refine (e_step3 s.duo hg t c hm).mono ?_
    rintro e w' ⟨he, hD, hM, hF⟩
    exact ⟨he, es_next (s := s) (by rw [e4]; exact hD) (by rw [e2.2, e3.2]; exact hM) hF⟩
theorem b_step (s : ES w0 lo hi b rb q A t c gp ga gb i j w) {k1 k2 k3 k4 k5 : Int} {d : Bool} (hv : Hid (eV A t c j = (k1, k2, k3, k4, k5, d))) :
    Calls Try.prog 42 #[.pointer (some ⟨gb, 0, none⟩), .pointer (some ⟨rb, 0, none⟩)] w fun e w' => e = .returned (accV k1 k2 k3 k4 k5 d) ∧ ES w0 lo hi b rb q A t c gp ga gb i (j + 1) w' := by
  have hs := s.st
  obtain ⟨ht, h3, c0, c1⟩ := s.ar
  have hg : gb < lo ∨ hi ≤ gb := .inr (by omega)
  have hv := hv.out
  have : j = 0 ∨ j = 1 ∨ j = 2 ∨ 3 ≤ j := by omega
  rcases this with rfl | rfl | rfl | h
  · cases hv
    refine (s_step0 s.duo hg (-1) t ht _ rfl s.mb).mono ?_
    rintro e w' ⟨he, hD, hM, hF⟩
    exact ⟨he, es_nextb (s := s) hD hM hF⟩
  · cases hv
    refine (s_step1 s.duo hg t (-1) c (by rw [eA_len, h3]; exact Nat.zero_lt_one) (by show (upd A 6 t 1 3).getD 0 0 = c; rw [upd_ne (by decide), h3]; rfl) c0 c1 s.mb).mono ?_
    rintro e w' ⟨he, hD, hM, hF⟩
    exact ⟨he, es_nextb (s := s) hD hM hF⟩
  · cases hv
    refine (s_step2 s.duo hg t (by rw [eA_len]; exact ht) 1 (by show (upd A 6 t 1 6).getD t 0 = 1; exact upd_self ht) c c0 c1 s.mb).mono ?_
    rintro e w' ⟨he, hD, hM, hF⟩
    exact ⟨he, es_nextb (s := s) hD hM hF⟩
  · have e1 : eV A t c j = (0, 0, 0, 0, 0, false) := by unfold eV; rw [if_neg (by omega), if_neg (by omega), if_neg (by omega)]
    have e2 : eS j = 3 ∧ eS (j + 1) = 3 := by unfold eS; constructor <;> split <;> omega
    have e3 : eN c j = c ∧ eN c (j + 1) = c := by unfold eN; rw [if_neg (by omega), if_neg (by omega)]; exact ⟨rfl, rfl⟩
    have e4 : eA A t c (j + 1) = eA A t c j := by unfold eA; rw [if_neg (by omega), if_neg (by omega), if_neg (by omega), if_neg (by omega)]
    rw [e1] at hv
    cases hv
    have hm := s.mb
    rw [e2.1, e3.1] at hm
    refine (s_step3 s.duo hg t c hm).mono ?_
    rintro e w' ⟨he, hD, hM, hF⟩
    exact ⟨he, es_nextb (s := s) (by rw [e4]; exact hD) (by rw [e2.2, e3.2]; exact hM) hF⟩
theorem ab_same (s : ES w0 lo hi b rb q A t c gp ga gb i i w) : Calls Try.prog 43 #[pairV b rb] w fun e w' => e = .returned (.bool true) ∧ ES w0 lo hi b rb q A t c gp ga gb i i w' := by
  have hs := s.st
  refine (p_same s.duo).mono ?_
  rintro e w' ⟨he, hD, hS⟩
  have hF := Fr.of_stay (P := PI lo hi) hS (fun x a c => ⟨a, c⟩)
  exact ⟨he, hD, mem_fr s.pa hF (by unfold PI; omega), mem_fr s.ma hF (by unfold PI; omega), mem_fr s.mb hF (by unfold PI; omega), hF.after s.old (fun g hx => by unfold PI at hx; omega) (Nat.le_refl _), hs, s.ar⟩
theorem a_done (s : ES w0 lo hi b rb q A t c gp ga gb i j w) : Calls Try.prog 38 #[.pointer (some ⟨ga, 0, none⟩)] w fun e w' => e = .returned (.bool (eS i == 3)) ∧ w = w' := e_done ga _ _ _ w s.ma
theorem b_done (s : ES w0 lo hi b rb q A t c gp ga gb i j w) : Calls Try.prog 39 #[.pointer (some ⟨gb, 0, none⟩)] w fun e w' => e = .returned (.bool (eS j == 3)) ∧ w = w' := s_done gb _ _ _ w s.mb
theorem a_snap (s : ES w0 lo hi b rb q A t c gp ga gb i j w) : Calls Try.prog 40 #[.pointer (some ⟨ga, 0, none⟩)] w fun e w' => e = .returned (.int .i64 (eN c i)) ∧ w = w' := e_snap ga _ _ _ w s.ma
end
end Go.Proofs.Ythgbfghhiadjpaa.EpoE
