/-
  One machine at work: what holds of clock and slots, step by step.
-/
import Derived.Test.YthgbfghhiadjpaaEpoG
import Derived.Test.YthgbfghhiadjpaaEpoB
namespace Go.Proofs.Ythgbfghhiadjpaa.EpoS
open Go.ChangeShapes Go.WideShapes Go.ChangeAt Go.RowKit
open PlainT BlkW LayS LayA CelS CelM CelP CelV CelN CelO CelI CelY CelF LabD LabR LabP LabS EpoA EpoF
set_option linter.unusedVariables false
set_option maxHeartbeats 1000000

/-- The cells of both machines: the clock is c in both, the program's slots are s. -/
structure Sl (w0 : World) (lo hi b rb : Nat) (q : Cfg) (c : Int) (s : List Int) (w : World) : Prop where
  duo : ∃ A B, Duo lo hi w b rb q A B ∧ A 3 = [c] ∧ B 3 = [c] ∧ A 6 = s ∧ (A 4).length = 1 ∧ (A 5).length = 1
  lo : w0.heap.size ≤ lo
  old : Below w0.heap.size w0 w
section
variable {w0 w w' : World} {lo hi b rb g : Nat} {q : Cfg} {c : Int} {s : List Int} {P : Nat → Prop}
theorem Sl.fr (h : Sl w0 lo hi b rb q c s w) (k : Fr P w w') (hp : ∀ g, lo ≤ g → g < hi → ¬ P g) (h0 : ∀ g, P g → w0.heap.size ≤ g) : Sl w0 lo hi b rb q c s w' := by
  obtain ⟨A, B, hd, h3, h4, h6, hh⟩ := h.duo
  exact ⟨⟨A, B, hd.fr k hp, h3, h4, h6, hh⟩, h.lo, k.after h.old h0 (Nat.le_refl _)⟩
theorem Sl.below (h : Sl w0 lo hi b rb q c s w) (k : Below w.heap.size w w') : Sl w0 lo hi b rb q c s w' :=
  h.fr (P := fun _ => False) (Fr.of_below k) (fun _ _ _ => id) (fun _ => False.elim)
theorem Sl.alloc (h : Sl w0 lo hi b rb q c s w) (o : Obj) : Sl w0 lo hi b rb q c s (w.alloc o) := h.below (below_new w o)
theorem Sl.drewN (h : Sl w0 lo hi b rb q c s w) (n : Nat) : Sl w0 lo hi b rb q c s (w.drewN n) := h.below (below_drewN (Below.refl _ w) n)
theorem Sl.top (h : Sl w0 lo hi b rb q c s w) : hi ≤ w.heap.size := by
  obtain ⟨A, B, hd, h3, h4, h6, hh⟩ := h.duo
  exact hd.top
theorem Sl.le (h : Sl w0 lo hi b rb q c s w) : lo ≤ hi := by
  obtain ⟨A, B, ⟨m1, m2, h1, h2, hm, _⟩, _⟩ := h.duo
  have := Is.le h1
  have := RefIs.le h2
  omega
theorem Sl.size (h : Sl w0 lo hi b rb q c s w) : w0.heap.size ≤ w.heap.size := h.old.size
/-- What a step leaves: the machine's box, the rest as it was. -/
theorem Sl.mk' {A B : Int → List Int} {c' : Int} {s' : List Int} (h : Sl w0 lo hi b rb q c s w) (hgw : w0.heap.size ≤ g) (hd : Duo lo hi w' b rb q A B) (h3 : A 3 = [c']) (h4 : B 3 = [c']) (h6 : A 6 = s') (hh : (A 4).length = 1 ∧ (A 5).length = 1) (k : Fr (PG lo hi g) w w') : Sl w0 lo hi b rb q c' s' w' :=
  ⟨⟨A, B, hd, h3, h4, h6, hh⟩, h.lo, k.after h.old (fun x hx => by unfold PG at hx; have := h.lo; omega) (Nat.le_refl _)⟩
theorem l_e0 (h : Sl w0 lo hi b rb q c s w) (hg : g < lo ∨ hi ≤ g) (hgw : w0.heap.size ≤ g) (n : Int) (i : Nat) (hlt : i < s.length) (x : Int) (hx : s.getD i 0 = x) (M : Mem w g 123 #[.int .i64 0, .int .i64 i, .int .i64 n]) : Calls Try.prog 41 #[.pointer (some ⟨g, 0, none⟩), .pointer (some ⟨b, 0, none⟩)] w fun e w' => e = .returned (accV 2 6 i x 1 true) ∧ Sl w0 lo hi b rb q c (s.set i 1) w' ∧ Mem w' g 123 #[.int .i64 1, .int .i64 i, .int .i64 n] ∧ Fr (PG lo hi g) w w' := by
  obtain ⟨A, B, hd, h3, h4, h6, hh⟩ := h.duo
  refine (e_step0 hd hg n i (by rw [h6]; exact hlt) x (by rw [h6]; exact hx) M).mono ?_
  rintro e w' ⟨he, hD, hM, hF⟩
  exact ⟨he, h.mk' hgw hD (by simp [upd, h3]) h4 (by simp [upd, h6]) (by simpa [upd] using hh) hF, hM, hF⟩
theorem l_e1 (h : Sl w0 lo hi b rb q c s w) (hg : g < lo ∨ hi ≤ g) (hgw : w0.heap.size ≤ g) (i : Nat) (n : Int) (h0 : 0 ≤ c) (h1 : c ≤ 1099511627776) (M : Mem w g 123 #[.int .i64 1, .int .i64 i, .int .i64 n]) : Calls Try.prog 41 #[.pointer (some ⟨g, 0, none⟩), .pointer (some ⟨b, 0, none⟩)] w fun e w' => e = .returned (accV 1 3 0 c c true) ∧ Sl w0 lo hi b rb q c s w' ∧ Mem w' g 123 #[.int .i64 2, .int .i64 i, .int .i64 c] ∧ Fr (PG lo hi g) w w' := by
  obtain ⟨A, B, hd, h3, h4, h6, hh⟩ := h.duo
  refine (e_step1 hd hg i n c (by rw [h3]; exact Nat.zero_lt_one) (by rw [h3]; rfl) h0 h1 M).mono ?_
  rintro e w' ⟨he, hD, hM, hF⟩
  exact ⟨he, h.mk' hgw hD (by simp [h3]) h4 (by simp [h6]) (by simpa [upd] using hh) hF, hM, hF⟩
theorem l_e2 (h : Sl w0 lo hi b rb q c s w) (hg : g < lo ∨ hi ≤ g) (hgw : w0.heap.size ≤ g) (i : Nat) (hlt : i < s.length) (x : Int) (hx : s.getD i 0 = x) (v : Int) (v0 : 0 ≤ v) (v1 : v ≤ 1099511627776) (M : Mem w g 123 #[.int .i64 2, .int .i64 i, .int .i64 v]) : Calls Try.prog 41 #[.pointer (some ⟨g, 0, none⟩), .pointer (some ⟨b, 0, none⟩)] w fun e w' => e = .returned (accV 2 6 i x (v + 2) true) ∧ Sl w0 lo hi b rb q c (s.set i (v + 2)) w' ∧ Mem w' g 123 #[.int .i64 3, .int .i64 i, .int .i64 v] ∧ Fr (PG lo hi g) w w' := by
  obtain ⟨A, B, hd, h3, h4, h6, hh⟩ := h.duo
  refine (e_step2 hd hg i (by rw [h6]; exact hlt) x (by rw [h6]; exact hx) v v0 v1 M).mono ?_
  rintro e w' ⟨he, hD, hM, hF⟩
  exact ⟨he, h.mk' hgw hD (by simp [upd, h3]) h4 (by simp [upd, h6]) (by simpa [upd] using hh) hF, hM, hF⟩
theorem l_e3 (h : Sl w0 lo hi b rb q c s w) (hg : g < lo ∨ hi ≤ g) (hgw : w0.heap.size ≤ g) (i : Nat) (v : Int) (M : Mem w g 123 #[.int .i64 3, .int .i64 i, .int .i64 v]) : Calls Try.prog 41 #[.pointer (some ⟨g, 0, none⟩), .pointer (some ⟨b, 0, none⟩)] w fun e w' => e = .returned (accV 0 0 0 0 0 false) ∧ Sl w0 lo hi b rb q c s w' ∧ Mem w' g 123 #[.int .i64 3, .int .i64 i, .int .i64 v] ∧ Fr (PG lo hi g) w w' := by
  obtain ⟨A, B, hd, h3, h4, h6, hh⟩ := h.duo
  refine (e_step3 hd hg i v M).mono ?_
  rintro e w' ⟨he, hD, hM, hF⟩
  exact ⟨he, h.mk' hgw hD (by simp [h3]) h4 (by simp [h6]) (by simpa [upd] using hh) hF, hM, hF⟩
theorem l_f0 (h : Sl w0 lo hi b rb q c s w) (hg : g < lo ∨ hi ≤ g) (hgw : w0.heap.size ≤ g) (t n : Int) (h0 : 0 ≤ c) (h1 : c ≤ 1099511627776) (M : Mem w g 129 #[.int .i64 0, .int .i64 t, .int .i64 n, .int .i64 0, .int .i64 (-1)]) : Calls Try.prog 53 #[.pointer (some ⟨g, 0, none⟩), .pointer (some ⟨b, 0, none⟩)] w fun e w' => e = .returned (accV 1 3 0 c c true) ∧ Sl w0 lo hi b rb q c s w' ∧ Mem w' g 129 #[.int .i64 (fsv n (skp t 0)), .int .i64 t, .int .i64 n, .int .i64 (skp t 0), .int .i64 c] ∧ Fr (PG lo hi g) w w' := by
  obtain ⟨A, B, hd, h3, h4, h6, hh⟩ := h.duo
  refine (f_step0 hd hg t n c (by rw [h3]; exact Nat.zero_lt_one) (by rw [h3]; rfl) h0 h1 M).mono ?_
  rintro e w' ⟨he, hD, hM, hF⟩
  exact ⟨he, h.mk' hgw hD (by simp [h3]) h4 (by simp [h6]) (by simpa [upd] using hh) hF, hM, hF⟩
theorem l_f1_yes (h : Sl w0 lo hi b rb q c s w) (hg : g < lo ∨ hi ≤ g) (hgw : w0.heap.size ≤ g) (t n : Int) (i : Nat) (hlt : i < s.length) (x : Int) (hx : s.getD i 0 = x) (x0 : 0 ≤ x) (x1 : x ≤ 1099511627778) (v : Int) (h0 : 0 ≤ v) (hi9 : i ≤ 900) (hp : Hid (pass x v = true)) (M : Mem w g 129 #[.int .i64 1, .int .i64 t, .int .i64 n, .int .i64 ((i : Int)), .int .i64 v]) : Calls Try.prog 53 #[.pointer (some ⟨g, 0, none⟩), .pointer (some ⟨b, 0, none⟩)] w fun e w' => e = .returned (accV 1 6 i x x true) ∧ Sl w0 lo hi b rb q c s w' ∧ Mem w' g 129 #[.int .i64 (fsv n (skp t (i + 1))), .int .i64 t, .int .i64 n, .int .i64 (skp t (i + 1)), .int .i64 v] ∧ Fr (PG lo hi g) w w' := by
  obtain ⟨A, B, hd, h3, h4, h6, hh⟩ := h.duo
  refine (f_step1_yes hd hg t n i (by rw [h6]; exact hlt) x (by rw [h6]; exact hx) x0 x1 v h0 hi9 hp M).mono ?_
  rintro e w' ⟨he, hD, hM, hF⟩
  exact ⟨he, h.mk' hgw hD (by simp [h3]) h4 (by simp [h6]) (by simpa [upd] using hh) hF, hM, hF⟩
theorem l_f1_no (h : Sl w0 lo hi b rb q c s w) (hg : g < lo ∨ hi ≤ g) (hgw : w0.heap.size ≤ g) (t n : Int) (i : Nat) (hlt : i < s.length) (x : Int) (hx : s.getD i 0 = x) (x0 : 0 ≤ x) (x1 : x ≤ 1099511627778) (v : Int) (h0 : 0 ≤ v) (hi9 : i ≤ 900) (hp : Hid (pass x v = false)) (M : Mem w g 129 #[.int .i64 1, .int .i64 t, .int .i64 n, .int .i64 ((i : Int)), .int .i64 v]) : Calls Try.prog 53 #[.pointer (some ⟨g, 0, none⟩), .pointer (some ⟨b, 0, none⟩)] w fun e w' => e = .returned (accV 1 6 i x x true) ∧ Sl w0 lo hi b rb q c s w' ∧ Mem w' g 129 #[.int .i64 1, .int .i64 t, .int .i64 n, .int .i64 ((i : Int)), .int .i64 v] ∧ Fr (PG lo hi g) w w' := by
  obtain ⟨A, B, hd, h3, h4, h6, hh⟩ := h.duo
  refine (f_step1_no hd hg t n i (by rw [h6]; exact hlt) x (by rw [h6]; exact hx) x0 x1 v h0 hi9 hp M).mono ?_
  rintro e w' ⟨he, hD, hM, hF⟩
  exact ⟨he, h.mk' hgw hD (by simp [h3]) h4 (by simp [h6]) (by simpa [upd] using hh) hF, hM, hF⟩
theorem l_f2 (h : Sl w0 lo hi b rb q c s w) (hg : g < lo ∨ hi ≤ g) (hgw : w0.heap.size ≤ g) (t n wd v : Int) (M : Mem w g 129 #[.int .i64 2, .int .i64 t, .int .i64 n, .int .i64 wd, .int .i64 v]) : Calls Try.prog 53 #[.pointer (some ⟨g, 0, none⟩), .pointer (some ⟨b, 0, none⟩)] w fun e w' => e = .returned (accV 0 0 0 0 0 false) ∧ Sl w0 lo hi b rb q c s w' ∧ Mem w' g 129 #[.int .i64 2, .int .i64 t, .int .i64 n, .int .i64 wd, .int .i64 v] ∧ Fr (PG lo hi g) w w' := by
  obtain ⟨A, B, hd, h3, h4, h6, hh⟩ := h.duo
  refine (f_step2 hd hg t n wd v M).mono ?_
  rintro e w' ⟨he, hD, hM, hF⟩
  exact ⟨he, h.mk' hgw hD (by simp [h3]) h4 (by simp [h6]) (by simpa [upd] using hh) hF, hM, hF⟩
theorem l_leave (h : Sl w0 lo hi b rb q c s w) (i : Nat) (hlt : i < s.length) (x : Int) (hx : s.getD i 0 = x) : Calls Try.prog 44 #[.pointer (some ⟨b, 0, none⟩), .int .i64 i] w fun e w' => e = .returned (accV 2 6 i x 0 true) ∧ Sl w0 lo hi b rb q c (s.set i 0) w' ∧ Stay lo hi w w' := by
  obtain ⟨A, B, hd, h3, h4, h6, hh⟩ := h.duo
  refine (e_leave hd i (by rw [h6]; exact hlt) x (by rw [h6]; exact hx)).mono ?_
  rintro e w' ⟨he, hD, hS⟩
  exact ⟨he, ⟨⟨_, _, hD, by simp [upd, h3], h4, by simp [upd, h6], by simpa [upd] using hh⟩, h.lo, h.old.trans (hS.below h.lo h.old.size)⟩, hS⟩
theorem l_clock (h : Sl w0 lo hi b rb q c s w) (v : Int) : Calls Try.prog 35 #[pairV b rb, .int .i64 3, .int .i64 0, .int .u64 v] w fun e w' => e = .returned (.bool true) ∧ Sl w0 lo hi b rb q v s w' ∧ Stay lo hi w w' := by
  obtain ⟨A, B, hd, h3, h4, h6, hh⟩ := h.duo
  have hset := p_set hd 3 (by decide) 0 (by rw [h3]; exact Nat.zero_lt_one) (by rw [h4]; exact Nat.zero_lt_one) c (by rw [h3]; rfl) (by rw [h4]; rfl) v
  refine hset.mono ?_
  rintro e w' ⟨he, hD, hS⟩
  exact ⟨he, ⟨⟨_, _, hD, by simp [upd, h3], by simp [upd, h4], by simp [upd, h6], by simpa [upd] using hh⟩, h.lo, h.old.trans (hS.below h.lo h.old.size)⟩, hS⟩
theorem l_image (h : Sl w0 lo hi b rb q c s w) : Calls Try.prog 25 #[.pointer (some ⟨b, 0, none⟩)] w fun e w' => ∃ vd vo k t v vl vh vn, e = .returned (imgV vd vo k t v vl vh vn) ∧ OwnU w' w.heap.size vl s ∧ Sl w0 lo hi b rb q c s w' ∧ Stay lo hi w w' := by
  obtain ⟨A, B, ⟨m1, m2, hI, hR, hm, ho⟩, h3, h4, h6, hh⟩ := h.duo
  have hlen : (A 4).length = 1 ∧ (A 5).length = 1 := hh
  obtain ⟨t, ht⟩ : ∃ t, A 4 = [t] := ⟨_, one_get hlen.1⟩
  obtain ⟨v, hv⟩ : ∃ v, A 5 = [v] := ⟨_, one_get hlen.2⟩
  refine (m_image lo m1 w b A hI c t v h3 ht hv).mono ?_
  rintro e w' ⟨vd, vo, vl, vh, vn, he, ho', hI', hS⟩
  obtain ⟨hD, hS2⟩ := Duo.left hR hm ho hI' hS
  exact ⟨vd, vo, c, t, v, vl, vh, vn, he, by rw [← h6]; exact ho'.2.2.1, ⟨⟨A, B, hD, h3, h4, h6, hh⟩, h.lo, h.old.trans (hS2.below h.lo h.old.size)⟩, hS2⟩
theorem sl_begun {A : Int → List Int} (h : Begun w0 q A lo hi b rb w) : Sl w0 lo hi b rb q 0 [0, 0, 0, 0] w := by
  obtain ⟨_, ⟨n, no, _, _, rfl⟩, hd, hlo, hb⟩ := h
  exact ⟨⟨_, _, hd, rfl, rfl, rfl, rfl, rfl⟩, hlo, hb⟩
end
end Go.Proofs.Ythgbfghhiadjpaa.EpoS
