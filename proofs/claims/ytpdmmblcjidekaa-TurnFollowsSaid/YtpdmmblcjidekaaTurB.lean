/-
  One machine at work on the counters: what holds of ticket and serving counter, step by step.
-/
import Derived.Test.YtpdmmblcjidekaaTurA
namespace Go.Proofs.Ytpdmmblcjidekaa.TurB
open Go.ChangeShapes Go.WideShapes Go.ChangeAt Go.RowKit
open PlainT BlkW LayS LayA CelS CelM CelP CelV CelN CelO CelI CelY CelF LabD LabR LabP LabS TurA
set_option linter.unusedVariables false
set_option maxHeartbeats 1000000

abbrev TT : TypeId := 138
abbrev tBox (st : Nat) (k : Int) : Array Value := #[.int .i64 st, .int .i64 k]
/-- The cells of both machines: the program's counters are t and s. -/
structure Ct (w0 : World) (lo hi b rb : Nat) (q : Cfg) (t s : Int) (w : World) : Prop where
  duo : ∃ A B, Duo lo hi w b rb q A B ∧ A 4 = [t] ∧ A 5 = [s] ∧ (A 3).length = 1
  lo : w0.heap.size ≤ lo
  old : Below w0.heap.size w0 w
section
variable {w0 w w' : World} {lo hi b rb g : Nat} {q : Cfg} {t s : Int} {P : Nat → Prop}
theorem Ct.fr (h : Ct w0 lo hi b rb q t s w) (k : Fr P w w') (hp : ∀ g, lo ≤ g → g < hi → ¬ P g) (h0 : ∀ g, P g → w0.heap.size ≤ g) : Ct w0 lo hi b rb q t s w' := by
  obtain ⟨A, B, hd, h4, h5, hh⟩ := h.duo
  exact ⟨⟨A, B, hd.fr k hp, h4, h5, hh⟩, h.lo, k.after h.old h0 (Nat.le_refl _)⟩
theorem Ct.below (h : Ct w0 lo hi b rb q t s w) (k : Below w.heap.size w w') : Ct w0 lo hi b rb q t s w' :=
  h.fr (P := fun _ => False) (Fr.of_below k) (fun _ _ _ => id) (fun _ => False.elim)
theorem Ct.alloc (h : Ct w0 lo hi b rb q t s w) (o : Obj) : Ct w0 lo hi b rb q t s (w.alloc o) := h.below (below_new w o)
theorem Ct.drewN (h : Ct w0 lo hi b rb q t s w) (n : Nat) : Ct w0 lo hi b rb q t s (w.drewN n) := h.below (below_drewN (Below.refl _ w) n)
theorem Ct.top (h : Ct w0 lo hi b rb q t s w) : hi ≤ w.heap.size := by
  obtain ⟨A, B, hd, h4, h5, hh⟩ := h.duo
  exact hd.top
theorem Ct.le (h : Ct w0 lo hi b rb q t s w) : lo ≤ hi := by
  obtain ⟨A, B, ⟨m1, m2, h1, h2, hm, _⟩, _⟩ := h.duo
  have := Is.le h1
  have := RefIs.le h2
  omega
theorem Ct.size (h : Ct w0 lo hi b rb q t s w) : w0.heap.size ≤ w.heap.size := h.old.size
/-- What a step leaves: the machine's box, the rest as it was. -/
theorem Ct.mk' {A B : Int → List Int} {t' s' : Int} (h : Ct w0 lo hi b rb q t s w) (hgw : w0.heap.size ≤ g) (hd : Duo lo hi w' b rb q A B) (h4 : A 4 = [t']) (h5 : A 5 = [s']) (hh : (A 3).length = 1) (k : Fr (PG lo hi g) w w') : Ct w0 lo hi b rb q t' s' w' :=
  ⟨⟨A, B, hd, h4, h5, hh⟩, h.lo, k.after h.old (fun x hx => by unfold PG at hx; have := h.lo; omega) (Nat.le_refl _)⟩
theorem c_s0 (h : Ct w0 lo hi b rb q t s w) (hg : g < lo ∨ hi ≤ g) (hgw : w0.heap.size ≤ g) (k : Int) (h0 : 0 ≤ t) (h1 : t ≤ 1099511627776) (M : Mem w g TT (tBox 0 k)) : Calls Try.prog 58 #[.pointer (some ⟨g, 0, none⟩), .pointer (some ⟨b, 0, none⟩)] w fun e w' => e = .returned (accV 4 4 0 t (t + 1) true) ∧ Ct w0 lo hi b rb q (t + 1) s w' ∧ Mem w' g TT (tBox 1 t) ∧ Fr (PG lo hi g) w w' := by
  obtain ⟨A, B, hd, h4, h5, hh⟩ := h.duo
  refine (t_step0 hd hg k t (by rw [h4]; exact Nat.zero_lt_one) (by rw [h4]; rfl) h0 h1 M).mono ?_
  rintro e w' ⟨he, hD, hM, hF⟩
  exact ⟨he, h.mk' hgw hD (by simp [upd, h4]) (by simp [upd, h5]) (by simpa [upd] using hh) hF, hM, hF⟩
theorem c_s1_yes (h : Ct w0 lo hi b rb q t s w) (hg : g < lo ∨ hi ≤ g) (hgw : w0.heap.size ≤ g) (k : Int) (k0 : 0 ≤ k) (k1 : k ≤ 1099511627777) (he : (s == k) = true) (M : Mem w g TT (tBox 1 k)) : Calls Try.prog 58 #[.pointer (some ⟨g, 0, none⟩), .pointer (some ⟨b, 0, none⟩)] w fun e w' => e = .returned (accV 1 5 0 s s true) ∧ Ct w0 lo hi b rb q t s w' ∧ Mem w' g TT (tBox 2 k) ∧ Fr (PG lo hi g) w w' := by
  obtain ⟨A, B, hd, h4, h5, hh⟩ := h.duo
  refine (t_step1_yes hd hg k k0 k1 s (by rw [h5]; exact Nat.zero_lt_one) (by rw [h5]; rfl) he M).mono ?_
  rintro e w' ⟨he, hD, hM, hF⟩
  exact ⟨he, h.mk' hgw hD h4 h5 hh hF, hM, hF⟩
theorem c_s1_no (h : Ct w0 lo hi b rb q t s w) (hg : g < lo ∨ hi ≤ g) (hgw : w0.heap.size ≤ g) (k : Int) (k0 : 0 ≤ k) (k1 : k ≤ 1099511627777) (he : (s == k) = false) (M : Mem w g TT (tBox 1 k)) : Calls Try.prog 58 #[.pointer (some ⟨g, 0, none⟩), .pointer (some ⟨b, 0, none⟩)] w fun e w' => e = .returned (accV 1 5 0 s s true) ∧ Ct w0 lo hi b rb q t s w' ∧ Mem w' g TT (tBox 1 k) ∧ Fr (PG lo hi g) w w' := by
  obtain ⟨A, B, hd, h4, h5, hh⟩ := h.duo
  refine (t_step1_no hd hg k k0 k1 s (by rw [h5]; exact Nat.zero_lt_one) (by rw [h5]; rfl) he M).mono ?_
  rintro e w' ⟨he, hD, hM, hF⟩
  exact ⟨he, h.mk' hgw hD h4 h5 hh hF, hM, hF⟩
theorem c_s2 (h : Ct w0 lo hi b rb q t s w) (hg : g < lo ∨ hi ≤ g) (hgw : w0.heap.size ≤ g) (k : Int) (M : Mem w g TT (tBox 2 k)) : Calls Try.prog 58 #[.pointer (some ⟨g, 0, none⟩), .pointer (some ⟨b, 0, none⟩)] w fun e w' => e = .returned (accV 0 0 0 0 0 false) ∧ Ct w0 lo hi b rb q t s w' ∧ Mem w' g TT (tBox 2 k) ∧ Fr (PG lo hi g) w w' := by
  obtain ⟨A, B, hd, h4, h5, hh⟩ := h.duo
  refine (t_step2 hd hg k M).mono ?_
  rintro e w' ⟨he, hD, hM, hF⟩
  exact ⟨he, h.mk' hgw hD h4 h5 hh hF, hM, hF⟩
theorem c_pass (h : Ct w0 lo hi b rb q t s w) (k : Int) (k0 : 0 ≤ k) (k1 : k ≤ 1099511627776) : Calls Try.prog 56 #[.pointer (some ⟨b, 0, none⟩), .int .i64 k] w fun e w' => e = .returned (accV 2 5 0 s (k + 1) true) ∧ Ct w0 lo hi b rb q t (k + 1) w' ∧ Stay lo hi w w' := by
  obtain ⟨A, B, hd, h4, h5, hh⟩ := h.duo
  refine (t_pass hd k k0 k1 s (by rw [h5]; exact Nat.zero_lt_one) (by rw [h5]; rfl)).mono ?_
  rintro e w' ⟨he, hD, hS⟩
  exact ⟨he, ⟨⟨_, _, hD, by simp [upd, h4], by simp [upd, h5], by simpa [upd] using hh⟩, h.lo, h.old.trans (hS.below h.lo h.old.size)⟩, hS⟩
theorem c_image (h : Ct w0 lo hi b rb q t s w) : Calls Try.prog 26 #[.pointer (some ⟨b, 0, none⟩)] w fun e w' => ∃ vd vo c vl vh vn, e = .returned (imgV vd vo c t s vl vh vn) ∧ Ct w0 lo hi b rb q t s w' ∧ Stay lo hi w w' := by
  obtain ⟨A, B, ⟨m1, m2, hI, hR, hm, ho⟩, h4, h5, hh⟩ := h.duo
  have hlen : (A 3).length = 1 := hh
  obtain ⟨c, hc⟩ : ∃ c, A 3 = [c] := ⟨_, one_get hlen⟩
  refine (m_image lo m1 w b A hI c t s hc h4 h5).mono ?_
  rintro e w' ⟨vd, vo, vl, vh, vn, he, ho', hI', hS⟩
  obtain ⟨hD, hS2⟩ := Duo.left hR hm ho hI' hS
  exact ⟨vd, vo, c, vl, vh, vn, he, ⟨⟨A, B, hD, h4, h5, hh⟩, h.lo, h.old.trans (hS2.below h.lo h.old.size)⟩, hS2⟩
theorem c_image2 (h : Ct w0 lo hi b rb q t s w) : Calls Try.prog 26 #[.pointer (some ⟨b, 0, none⟩)] w fun e w' => ∃ (a1 a2 a3 a4 a5 : Option Addr) (n1 n2 n3 n4 n5 k1 k2 k3 k4 k5 : Nat) (c : Int), e = .returned (imgV (.slice a1 n1 k1) (.slice a2 n2 k2) c t s (.slice a3 n3 k3) (.slice a4 n4 k4) (.slice a5 n5 k5)) ∧ Ct w0 lo hi b rb q t s w' ∧ Stay lo hi w w' := by
  obtain ⟨A, B, ⟨m1, m2, hI, hR, hm, ho⟩, h4, h5, hh⟩ := h.duo
  have hlen : (A 3).length = 1 := hh
  obtain ⟨c, hc⟩ : ∃ c, A 3 = [c] := ⟨_, one_get hlen⟩
  refine (m_image lo m1 w b A hI c t s hc h4 h5).mono ?_
  rintro e w' ⟨vd, vo, vl, vh, vn, he, ⟨o1, o2, o3, o4, o5⟩, hI', hS⟩
  obtain ⟨hD, hS2⟩ := Duo.left hR hm ho hI' hS
  obtain ⟨a1, k1, rfl, _⟩ := own_slice o1
  obtain ⟨a2, k2, rfl, _⟩ := own_slice o2
  obtain ⟨a3, k3, rfl, _⟩ := own_slice o3
  obtain ⟨a4, k4, rfl, _⟩ := own_slice o4
  obtain ⟨a5, k5, rfl, _⟩ := own_slice o5
  exact ⟨a1, a2, a3, a4, a5, _, _, _, _, _, k1, k2, k3, k4, k5, c, he, ⟨⟨A, B, hD, h4, h5, hh⟩, h.lo, h.old.trans (hS2.below h.lo h.old.size)⟩, hS2⟩
theorem ct_begun {A : Int → List Int} (h : Begun w0 q A lo hi b rb w) : Ct w0 lo hi b rb q 0 0 w := by
  obtain ⟨_, ⟨n, no, _, _, rfl⟩, hd, hlo, hb⟩ := h
  exact ⟨⟨_, _, hd, rfl, rfl, rfl⟩, hlo, hb⟩
end
end Go.Proofs.Ytpdmmblcjidekaa.TurB
