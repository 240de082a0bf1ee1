/-
  Contract of the statements' own function: does: both machines do one operation and answer alike.
-/
import Derived.Test.YthgbfghhiadjpaaLabR
import Derived.Test.YthgbfghhiadjpaaCelOp
namespace Go.Proofs.Ythgbfghhiadjpaa.CelDs
open Go.ChangeShapes Go.WideShapes Go.ChangeAt Go.RowKit
open PlainT BlkW LayS LayA LayK CelS CelM CelP CelV CelN CelO CelF CelLo LabD LabR
set_option linter.unusedVariables false
set_option maxHeartbeats 4000000
set_option maxRecDepth 100000

theorem d_store2 {lo hi b rb : Nat} {w : World} {q : Cfg} {A B : Int → List Int} (h : Duo lo hi w b rb q A B) (k : Int) (hk : 1 ≤ k ∧ k ≤ 8) (i : Nat) (hlt : i < (A k).length) (x : Int) (hx : (A k).getD i 0 = x) (v : Int) : Calls Try.prog 33 #[.pointer (some ⟨b, 0, none⟩), .int .i64 k, .int .i64 i, .int .u64 v] w fun e w' => e = .returned (.tuple #[accV 2 k i x v true, .int .i64 0]) ∧ Duo lo hi w' b rb q (upd A k i v) B ∧ Stay lo hi w w' := by
  obtain ⟨m1, m2, h1, h2, hm, ho⟩ := h
  refine (m_store lo m1 w b A h1 k hk i hlt x hx v).mono ?_
  rintro e w' ⟨he, hI, hS⟩
  exact ⟨he, Duo.left h2 hm ho hI hS⟩

theorem d_swap {lo hi b rb : Nat} {w : World} {q : Cfg} {A B : Int → List Int} (h : Duo lo hi w b rb q A B) (k : Int) (hk : 1 ≤ k ∧ k ≤ 8) (i : Nat) (hlt : i < (A k).length) (x : Int) (hx : (A k).getD i 0 = x) (o v p : Int) (d : Bool) (hp : Hid (p = if x = o then v else x)) (hd : Hid (d = decide (x = o))) : Calls Try.prog 30 #[.pointer (some ⟨b, 0, none⟩), .int .i64 k, .int .i64 i, .int .u64 o, .int .u64 v] w fun e w' => e = .returned (.tuple #[accV 3 k i x p d, .int .i64 0]) ∧ Duo lo hi w' b rb q (upd A k i p) B ∧ Stay lo hi w w' := by
  obtain ⟨m1, m2, h1, h2, hm, ho⟩ := h
  refine (m_swap lo m1 w b A h1 k hk i hlt x hx o v p d hp hd).mono ?_
  rintro e w' ⟨he, hI, hS⟩
  exact ⟨he, Duo.left h2 hm ho hI hS⟩

theorem d_add {lo hi b rb : Nat} {w : World} {q : Cfg} {A B : Int → List Int} (h : Duo lo hi w b rb q A B) (k : Int) (hk : 1 ≤ k ∧ k ≤ 8) (i : Nat) (hlt : i < (A k).length) (x : Int) (hx : (A k).getD i 0 = x) (v s : Int) (hs : Hid (IntKind.u64.wrap (x + v) = s)) : Calls Try.prog 29 #[.pointer (some ⟨b, 0, none⟩), .int .i64 k, .int .i64 i, .int .u64 v] w fun e w' => e = .returned (.tuple #[accV 4 k i x s true, .int .i64 0]) ∧ Duo lo hi w' b rb q (upd A k i s) B ∧ Stay lo hi w w' := by
  obtain ⟨m1, m2, h1, h2, hm, ho⟩ := h
  refine (m_add lo m1 w b A h1 k hk i hlt x hx v s hs).mono ?_
  rintro e w' ⟨he, hI, hS⟩
  exact ⟨he, Duo.left h2 hm ho hI hS⟩

theorem s_swap {lo hi b rb : Nat} {w : World} {q : Cfg} {A B : Int → List Int} (h : Duo lo hi w b rb q A B) (k : Int) (hk : 1 ≤ k ∧ k ≤ 8) (i : Nat) (hlt : i < (B k).length) (x : Int) (hx : (B k).getD i 0 = x) (o v p : Int) (d : Bool) (hp : Hid (p = if x = o then v else x)) (hd : Hid (d = decide (x = o))) : Calls Try.prog 77 #[.pointer (some ⟨rb, 0, none⟩), .int .i64 k, .int .i64 i, .int .u64 o, .int .u64 v] w fun e w' => e = .returned (accV 3 k i x p d) ∧ Duo lo hi w' b rb q A (upd B k i p) ∧ Stay lo hi w w' := by
  obtain ⟨m1, m2, h1, h2, hm, ho⟩ := h
  refine (r_swap m2 hi w rb q B h2 ho k hk i hlt x hx o v p d hp hd).mono ?_
  rintro e w' ⟨he, hI, hS⟩
  exact ⟨he, Duo.right h1 hm (upd_out hk ho) hI hS⟩

theorem s_add {lo hi b rb : Nat} {w : World} {q : Cfg} {A B : Int → List Int} (h : Duo lo hi w b rb q A B) (k : Int) (hk : 1 ≤ k ∧ k ≤ 8) (i : Nat) (hlt : i < (B k).length) (x : Int) (hx : (B k).getD i 0 = x) (v s : Int) (hs : IntKind.u64.wrap (x + v) = s) : Calls Try.prog 78 #[.pointer (some ⟨rb, 0, none⟩), .int .i64 k, .int .i64 i, .int .u64 v] w fun e w' => e = .returned (accV 4 k i x s true) ∧ Duo lo hi w' b rb q A (upd B k i s) ∧ Stay lo hi w w' := by
  obtain ⟨m1, m2, h1, h2, hm, ho⟩ := h
  refine (r_add m2 hi w rb q B h2 ho k hk i hlt x hx v s hs).mono ?_
  rintro e w' ⟨he, hI, hS⟩
  exact ⟨he, Duo.right h1 hm (upd_out hk ho) hI hS⟩

theorem d_load_none {lo hi b rb : Nat} {w : World} {q : Cfg} {A B : Int → List Int} (h : Duo lo hi w b rb q A B) (k i : Int) (hno : ¬ (0 ≤ i ∧ i < (A k).length)) : Calls Try.prog 31 #[.pointer (some ⟨b, 0, none⟩), .int .i64 k, .int .i64 i] w fun e w' => e = .returned (.tuple #[accV 0 0 0 0 0 false, .int .i64 60]) ∧ Duo lo hi w' b rb q A B ∧ Stay lo hi w w' := by
  obtain ⟨m1, m2, h1, h2, hm, ho⟩ := h
  refine (m_load_none lo m1 w b A h1 k i hno).mono ?_
  rintro e w' ⟨he, hI, hS⟩
  exact ⟨he, Duo.left h2 hm ho hI hS⟩
theorem s_load_none {lo hi b rb : Nat} {w : World} {q : Cfg} {A B : Int → List Int} (h : Duo lo hi w b rb q A B) (k i : Int) (hno : ¬ (0 ≤ i ∧ i < (B k).length)) : Calls Try.prog 75 #[.pointer (some ⟨rb, 0, none⟩), .int .i64 k, .int .i64 i] w fun e w' => e = .returned (accV 0 0 0 0 0 false) ∧ Duo lo hi w' b rb q A B ∧ Stay lo hi w w' := by
  obtain ⟨m1, m2, h1, h2, hm, ho⟩ := h
  refine (r_load_none m2 hi w rb q B h2 ho k i hno).mono ?_
  rintro e w' ⟨he, hI, hS⟩
  exact ⟨he, Duo.right h1 hm ho hI hS⟩

theorem d_store_none {lo hi b rb : Nat} {w : World} {q : Cfg} {A B : Int → List Int} (h : Duo lo hi w b rb q A B) (k i : Int) (hno : ¬ (0 ≤ i ∧ i < (A k).length)) (v : Int) : Calls Try.prog 33 #[.pointer (some ⟨b, 0, none⟩), .int .i64 k, .int .i64 i, .int .u64 v] w fun e w' => e = .returned (.tuple #[accV 0 0 0 0 0 false, .int .i64 60]) ∧ Duo lo hi w' b rb q A B ∧ Stay lo hi w w' := by
  obtain ⟨m1, m2, h1, h2, hm, ho⟩ := h
  refine (m_store_none lo m1 w b A h1 k i hno v).mono ?_
  rintro e w' ⟨he, hI, hS⟩
  exact ⟨he, Duo.left h2 hm ho hI hS⟩
theorem s_store_none {lo hi b rb : Nat} {w : World} {q : Cfg} {A B : Int → List Int} (h : Duo lo hi w b rb q A B) (k i : Int) (hno : ¬ (0 ≤ i ∧ i < (B k).length)) (v : Int) : Calls Try.prog 76 #[.pointer (some ⟨rb, 0, none⟩), .int .i64 k, .int .i64 i, .int .u64 v] w fun e w' => e = .returned (accV 0 0 0 0 0 false) ∧ Duo lo hi w' b rb q A B ∧ Stay lo hi w w' := by
  obtain ⟨m1, m2, h1, h2, hm, ho⟩ := h
  refine (r_store_none m2 hi w rb q B h2 ho k i hno v).mono ?_
  rintro e w' ⟨he, hI, hS⟩
  exact ⟨he, Duo.right h1 hm ho hI hS⟩

theorem d_swap_none {lo hi b rb : Nat} {w : World} {q : Cfg} {A B : Int → List Int} (h : Duo lo hi w b rb q A B) (k i : Int) (hno : ¬ (0 ≤ i ∧ i < (A k).length)) (o v : Int) : Calls Try.prog 30 #[.pointer (some ⟨b, 0, none⟩), .int .i64 k, .int .i64 i, .int .u64 o, .int .u64 v] w fun e w' => e = .returned (.tuple #[accV 0 0 0 0 0 false, .int .i64 60]) ∧ Duo lo hi w' b rb q A B ∧ Stay lo hi w w' := by
  obtain ⟨m1, m2, h1, h2, hm, ho⟩ := h
  refine (m_swap_none lo m1 w b A h1 k i hno o v).mono ?_
  rintro e w' ⟨he, hI, hS⟩
  exact ⟨he, Duo.left h2 hm ho hI hS⟩
theorem s_swap_none {lo hi b rb : Nat} {w : World} {q : Cfg} {A B : Int → List Int} (h : Duo lo hi w b rb q A B) (k i : Int) (hno : ¬ (0 ≤ i ∧ i < (B k).length)) (o v : Int) : Calls Try.prog 77 #[.pointer (some ⟨rb, 0, none⟩), .int .i64 k, .int .i64 i, .int .u64 o, .int .u64 v] w fun e w' => e = .returned (accV 0 0 0 0 0 false) ∧ Duo lo hi w' b rb q A B ∧ Stay lo hi w w' := by
  obtain ⟨m1, m2, h1, h2, hm, ho⟩ := h
  refine (r_swap_none m2 hi w rb q B h2 ho k i hno o v).mono ?_
  rintro e w' ⟨he, hI, hS⟩
  exact ⟨he, Duo.right h1 hm ho hI hS⟩

theorem d_add_none {lo hi b rb : Nat} {w : World} {q : Cfg} {A B : Int → List Int} (h : Duo lo hi w b rb q A B) (k i : Int) (hno : ¬ (0 ≤ i ∧ i < (A k).length)) (v : Int) : Calls Try.prog 29 #[.pointer (some ⟨b, 0, none⟩), .int .i64 k, .int .i64 i, .int .u64 v] w fun e w' => e = .returned (.tuple #[accV 0 0 0 0 0 false, .int .i64 60]) ∧ Duo lo hi w' b rb q A B ∧ Stay lo hi w w' := by
  obtain ⟨m1, m2, h1, h2, hm, ho⟩ := h
  refine (m_add_none lo m1 w b A h1 k i hno v).mono ?_
  rintro e w' ⟨he, hI, hS⟩
  exact ⟨he, Duo.left h2 hm ho hI hS⟩
theorem s_add_none {lo hi b rb : Nat} {w : World} {q : Cfg} {A B : Int → List Int} (h : Duo lo hi w b rb q A B) (k i : Int) (hno : ¬ (0 ≤ i ∧ i < (B k).length)) (v : Int) : Calls Try.prog 78 #[.pointer (some ⟨rb, 0, none⟩), .int .i64 k, .int .i64 i, .int .u64 v] w fun e w' => e = .returned (accV 0 0 0 0 0 false) ∧ Duo lo hi w' b rb q A B ∧ Stay lo hi w w' := by
  obtain ⟨m1, m2, h1, h2, hm, ho⟩ := h
  refine (r_add_none m2 hi w rb q B h2 ho k i hno v).mono ?_
  rintro e w' ⟨he, hI, hS⟩
  exact ⟨he, Duo.right h1 hm ho hI hS⟩

theorem t_load {lo hi b rb : Nat} {w : World} {q : Cfg} {A : Int → List Int} (h : Duo lo hi w b rb q A A) (c i : Int) : ∃ A' k1 k2 k3 k4 k5 d er, ((k1 = 1 ∧ er = 0) ∨ (k1 = 0 ∧ k2 = 0 ∧ k3 = 0 ∧ k4 = 0 ∧ k5 = 0 ∧ d = false ∧ er = 60)) ∧
    (Calls Try.prog 31 #[.pointer (some ⟨b, 0, none⟩), .int .i64 c, .int .i64 i] w fun e w' => e = .returned (.tuple #[accV k1 k2 k3 k4 k5 d, .int .i64 er]) ∧ Duo lo hi w' b rb q A' A ∧ Stay lo hi w w') ∧
    (∀ W, Duo lo hi W b rb q A' A → Calls Try.prog 75 #[.pointer (some ⟨rb, 0, none⟩), .int .i64 c, .int .i64 i] W fun e w' => e = .returned (accV k1 k2 k3 k4 k5 d) ∧ Duo lo hi w' b rb q A' A' ∧ Stay lo hi W w') := by
  by_cases hh : 0 ≤ i ∧ i < (A c).length
  · obtain ⟨j, rfl⟩ : ∃ j : Nat, i = j := ⟨i.toNat, by omega⟩
    have hj : j < (A c).length := by omega
    have hk : 1 ≤ c ∧ c ≤ 8 := by
      rcases Decidable.em (1 ≤ c ∧ c ≤ 8) with h1 | h1
      · exact h1
      · rw [h.out c h1] at hj
        exact absurd hj (by simp)
    obtain ⟨x, hx⟩ : ∃ x, (A c).getD j 0 = x := ⟨_, rfl⟩
    exact ⟨A, 1, c, j, x, x, true, 0, .inl ⟨rfl, rfl⟩, d_load h c hk j hj x hx, fun W hw => s_load hw c hk j hj x hx⟩
  · exact ⟨A, 0, 0, 0, 0, 0, false, 60, .inr ⟨rfl, rfl, rfl, rfl, rfl, rfl, rfl⟩, d_load_none h c i hh, fun W hw => s_load_none hw c i hh⟩

theorem t_store {lo hi b rb : Nat} {w : World} {q : Cfg} {A : Int → List Int} (h : Duo lo hi w b rb q A A) (c i : Int) (v : Int) : ∃ A' k1 k2 k3 k4 k5 d er, ((k1 = 2 ∧ er = 0) ∨ (k1 = 0 ∧ k2 = 0 ∧ k3 = 0 ∧ k4 = 0 ∧ k5 = 0 ∧ d = false ∧ er = 60)) ∧
    (Calls Try.prog 33 #[.pointer (some ⟨b, 0, none⟩), .int .i64 c, .int .i64 i, .int .u64 v] w fun e w' => e = .returned (.tuple #[accV k1 k2 k3 k4 k5 d, .int .i64 er]) ∧ Duo lo hi w' b rb q A' A ∧ Stay lo hi w w') ∧
    (∀ W, Duo lo hi W b rb q A' A → Calls Try.prog 76 #[.pointer (some ⟨rb, 0, none⟩), .int .i64 c, .int .i64 i, .int .u64 v] W fun e w' => e = .returned (accV k1 k2 k3 k4 k5 d) ∧ Duo lo hi w' b rb q A' A' ∧ Stay lo hi W w') := by
  by_cases hh : 0 ≤ i ∧ i < (A c).length
  · obtain ⟨j, rfl⟩ : ∃ j : Nat, i = j := ⟨i.toNat, by omega⟩
    have hj : j < (A c).length := by omega
    have hk : 1 ≤ c ∧ c ≤ 8 := by
      rcases Decidable.em (1 ≤ c ∧ c ≤ 8) with h1 | h1
      · exact h1
      · rw [h.out c h1] at hj
        exact absurd hj (by simp)
    obtain ⟨x, hx⟩ : ∃ x, (A c).getD j 0 = x := ⟨_, rfl⟩
    exact ⟨(upd A c j v), 2, c, j, x, v, true, 0, .inl ⟨rfl, rfl⟩, d_store2 h c hk j hj x hx v, fun W hw => s_store hw c hk j hj x hx v⟩
  · exact ⟨A, 0, 0, 0, 0, 0, false, 60, .inr ⟨rfl, rfl, rfl, rfl, rfl, rfl, rfl⟩, d_store_none h c i hh v, fun W hw => s_store_none hw c i hh v⟩

theorem t_swap {lo hi b rb : Nat} {w : World} {q : Cfg} {A : Int → List Int} (h : Duo lo hi w b rb q A A) (c i : Int) (o v : Int) : ∃ A' k1 k2 k3 k4 k5 d er, ((k1 = 3 ∧ er = 0) ∨ (k1 = 0 ∧ k2 = 0 ∧ k3 = 0 ∧ k4 = 0 ∧ k5 = 0 ∧ d = false ∧ er = 60)) ∧
    (Calls Try.prog 30 #[.pointer (some ⟨b, 0, none⟩), .int .i64 c, .int .i64 i, .int .u64 o, .int .u64 v] w fun e w' => e = .returned (.tuple #[accV k1 k2 k3 k4 k5 d, .int .i64 er]) ∧ Duo lo hi w' b rb q A' A ∧ Stay lo hi w w') ∧
    (∀ W, Duo lo hi W b rb q A' A → Calls Try.prog 77 #[.pointer (some ⟨rb, 0, none⟩), .int .i64 c, .int .i64 i, .int .u64 o, .int .u64 v] W fun e w' => e = .returned (accV k1 k2 k3 k4 k5 d) ∧ Duo lo hi w' b rb q A' A' ∧ Stay lo hi W w') := by
  by_cases hh : 0 ≤ i ∧ i < (A c).length
  · obtain ⟨j, rfl⟩ : ∃ j : Nat, i = j := ⟨i.toNat, by omega⟩
    have hj : j < (A c).length := by omega
    have hk : 1 ≤ c ∧ c ≤ 8 := by
      rcases Decidable.em (1 ≤ c ∧ c ≤ 8) with h1 | h1
      · exact h1
      · rw [h.out c h1] at hj
        exact absurd hj (by simp)
    obtain ⟨x, hx⟩ : ∃ x, (A c).getD j 0 = x := ⟨_, rfl⟩
    exact ⟨(upd A c j (if x = o then v else x)), 3, c, j, x, (if x = o then v else x), (decide (x = o)), 0, .inl ⟨rfl, rfl⟩, d_swap h c hk j hj x hx o v _ _ (Lib.hid rfl) (Lib.hid rfl), fun W hw => s_swap hw c hk j hj x hx o v _ _ (Lib.hid rfl) (Lib.hid rfl)⟩
  · exact ⟨A, 0, 0, 0, 0, 0, false, 60, .inr ⟨rfl, rfl, rfl, rfl, rfl, rfl, rfl⟩, d_swap_none h c i hh o v, fun W hw => s_swap_none hw c i hh o v⟩

theorem t_add {lo hi b rb : Nat} {w : World} {q : Cfg} {A : Int → List Int} (h : Duo lo hi w b rb q A A) (c i : Int) (v : Int) : ∃ A' k1 k2 k3 k4 k5 d er, ((k1 = 4 ∧ er = 0) ∨ (k1 = 0 ∧ k2 = 0 ∧ k3 = 0 ∧ k4 = 0 ∧ k5 = 0 ∧ d = false ∧ er = 60)) ∧
    (Calls Try.prog 29 #[.pointer (some ⟨b, 0, none⟩), .int .i64 c, .int .i64 i, .int .u64 v] w fun e w' => e = .returned (.tuple #[accV k1 k2 k3 k4 k5 d, .int .i64 er]) ∧ Duo lo hi w' b rb q A' A ∧ Stay lo hi w w') ∧
    (∀ W, Duo lo hi W b rb q A' A → Calls Try.prog 78 #[.pointer (some ⟨rb, 0, none⟩), .int .i64 c, .int .i64 i, .int .u64 v] W fun e w' => e = .returned (accV k1 k2 k3 k4 k5 d) ∧ Duo lo hi w' b rb q A' A' ∧ Stay lo hi W w') := by
  by_cases hh : 0 ≤ i ∧ i < (A c).length
  · obtain ⟨j, rfl⟩ : ∃ j : Nat, i = j := ⟨i.toNat, by omega⟩
    have hj : j < (A c).length := by omega
    have hk : 1 ≤ c ∧ c ≤ 8 := by
      rcases Decidable.em (1 ≤ c ∧ c ≤ 8) with h1 | h1
      · exact h1
      · rw [h.out c h1] at hj
        exact absurd hj (by simp)
    obtain ⟨x, hx⟩ : ∃ x, (A c).getD j 0 = x := ⟨_, rfl⟩
    exact ⟨(upd A c j (IntKind.u64.wrap (x + v))), 4, c, j, x, (IntKind.u64.wrap (x + v)), true, 0, .inl ⟨rfl, rfl⟩, d_add h c hk j hj x hx v _ (Lib.hid rfl), fun W hw => s_add hw c hk j hj x hx v _ rfl⟩
  · exact ⟨A, 0, 0, 0, 0, 0, false, 60, .inr ⟨rfl, rfl, rfl, rfl, rfl, rfl, rfl⟩, d_add_none h c i hh v, fun W hw => s_add_none hw c i hh v⟩

theorem l_does {lo hi b rb : Nat} {w : World} {q : Cfg} {A : Int → List Int} (h : Duo lo hi w b rb q A A) (K c i o v : Int) : Calls Try.prog 28 #[.pointer (some ⟨b, 0, none⟩), .pointer (some ⟨rb, 0, none⟩), .agg #[.int .i64 K, .int .i64 c, .int .i64 i, .int .u64 o, .int .u64 v]] w fun e w' => e = .returned (.bool true) ∧ ∃ A', Duo lo hi w' b rb q A' A' ∧ Stay lo hi w w' := by
  have htop := h.top
  have MO := Lib.hid (((Mem.new w 51 #[.int .i64 K, .int .i64 c, .int .i64 i, .int .u64 o, .int .u64 v]).alloc (.cells #[.int .i64 0, .int .i64 0, .int .i64 0, .int .u64 0, .int .u64 0, .bool false] 57)).alloc (.cells #[.int .i64 0, .int .i64 0, .int .i64 0, .int .u64 0, .int .u64 0, .bool false] 57))
  have MA := Lib.hid ((mem_new1 w (.cells #[.int .i64 K, .int .i64 c, .int .i64 i, .int .u64 o, .int .u64 v] 51) 57 #[.int .i64 0, .int .i64 0, .int .i64 0, .int .u64 0, .int .u64 0, .bool false]).alloc (.cells #[.int .i64 0, .int .i64 0, .int .i64 0, .int .u64 0, .int .u64 0, .bool false] 57))
  have MB := Lib.hid (mem_new2 w (.cells #[.int .i64 K, .int .i64 c, .int .i64 i, .int .u64 o, .int .u64 v] 51) (.cells #[.int .i64 0, .int .i64 0, .int .i64 0, .int .u64 0, .int .u64 0, .bool false] 57) 57 #[.int .i64 0, .int .i64 0, .int .i64 0, .int .u64 0, .int .u64 0, .bool false])
  have D0 := Lib.hid (((h.alloc (.cells #[.int .i64 K, .int .i64 c, .int .i64 i, .int .u64 o, .int .u64 v] 51)).alloc (.cells #[.int .i64 0, .int .i64 0, .int .i64 0, .int .u64 0, .int .u64 0, .bool false] 57)).alloc (.cells #[.int .i64 0, .int .i64 0, .int .i64 0, .int .u64 0, .int .u64 0, .bool false] 57))
  have S0 := Lib.hid (Stay.of_below (lo := lo) (hi := hi) (below_new3 w (.cells #[.int .i64 K, .int .i64 c, .int .i64 i, .int .u64 o, .int .u64 v] 51) (.cells #[.int .i64 0, .int .i64 0, .int .i64 0, .int .u64 0, .int .u64 0, .bool false] 57) (.cells #[.int .i64 0, .int .i64 0, .int .i64 0, .int .u64 0, .int .u64 0, .bool false] 57)))
  clear h
  go_enter Try.func28, Try.ntmps28
  go_upto_region 3 with (fail)
  obtain ⟨W, hW⟩ : ∃ W, ((w.alloc (.cells #[.int .i64 K, .int .i64 c, .int .i64 i, .int .u64 o, .int .u64 v] 51)).alloc (.cells #[.int .i64 0, .int .i64 0, .int .i64 0, .int .u64 0, .int .u64 0, .bool false] 57)).alloc (.cells #[.int .i64 0, .int .i64 0, .int .i64 0, .int .u64 0, .int .u64 0, .bool false] 57) = W := ⟨_, rfl⟩
  rw [hW] at MO MA MB D0 S0
  first | rw [hW] | skip
  clear hW
  have c0 := MO.out.cell 0
  have c1 := MO.out.cell 1
  have c2 := MO.out.cell 2
  have c3 := MO.out.cell 3
  have c4 := MO.out.cell 4
  simp at c0 c1 c2 c3 c4
  go_upto_region 6 with (go_at_call 16; refine (k_place_ex _ _ (by omega) (by omega) _).mono ?_; rintro e w0 ⟨p, p0, p1, rfl, rfl⟩)
  have hp : p = 0 ∨ p = 1 ∨ p = 2 ∨ p = 3 := by omega
  clear p0 p1
  rcases hp with rfl | rfl | rfl | rfl
  · obtain ⟨A', k1, k2, k3, k4, k5, d, er, hcase, hc, hr⟩ := t_load D0.out c i
    go_upto_region 8 with (go_at_call 31; refine hc.mono ?_; rintro e w1 ⟨rfl, hD, hS⟩; have MA1 := Mem.of_eq MA.out (hS.block _ MA.out.lt (.inr (by omega))); have MO1 := Mem.of_eq MO.out (hS.block _ MO.out.lt (.inr htop)); have a0 := Mem.cell MA1 0; have a1 := Mem.cell MA1 1; have a2 := Mem.cell MA1 2; have a3 := Mem.cell MA1 3; have a4 := Mem.cell MA1 4; have a5 := Mem.cell MA1 5; have az := Mem.frozen MA1)
    have MA1 : Mem w1 (w.heap.size + 1) 57 #[.int .i64 0, .int .i64 0, .int .i64 0, .int .u64 0, .int .u64 0, .bool false] := Mem.of_eq MA.out (hS.block _ MA.out.lt (.inr (by omega)))
    have MO1 : Mem w1 w.heap.size 51 #[.int .i64 K, .int .i64 c, .int .i64 i, .int .u64 o, .int .u64 v] := Mem.of_eq MO.out (hS.block _ MO.out.lt (.inr htop))
    have MB1 : Mem w1 (w.heap.size + 2) 57 #[.int .i64 0, .int .i64 0, .int .i64 0, .int .u64 0, .int .u64 0, .bool false] := Mem.of_eq MB.out (hS.block _ MB.out.lt (.inr (by omega)))
    obtain ⟨MA2, SA⟩ := store6 MA1 (.int .i64 k1) (.int .i64 k2) (.int .i64 k3) (.int .u64 k4) (.int .u64 k5) (.bool d)
    have MO2 := Lib.hid (Mem.of_eq MO1 (SA.block _ MO1.lt (.inl (by omega))))
    have MB2 := Lib.hid (Mem.of_eq MB1 (SA.block _ MB1.lt (.inr (by omega))))
    have HA2 := Lib.hid MA2
    have HD2 := Lib.hid (hD.fr (P := fun x => x = w.heap.size + 1) (Fr.of_stay SA fun x a c => by omega) fun x a c => by omega)
    have HS2 := Lib.hid (Stay.over (S0.out.trans hS) SA (by omega))
    obtain ⟨W1, hW⟩ : ∃ W1, ((((((w1.setCell ⟨w.heap.size + 1, 0, none⟩ (.int .i64 k1)).setCell ⟨w.heap.size + 1, 1, none⟩ (.int .i64 k2)).setCell ⟨w.heap.size + 1, 2, none⟩ (.int .i64 k3)).setCell ⟨w.heap.size + 1, 3, none⟩ (.int .u64 k4)).setCell ⟨w.heap.size + 1, 4, none⟩ (.int .u64 k5)).setCell ⟨w.heap.size + 1, 5, none⟩ (.bool d)) = W1 := ⟨_, rfl⟩
    rw [hW] at MO2 MB2 HA2 HD2 HS2
    first | rw [hW] | skip
    clear hW hc hD hS MA1 MO1 MB1 MA2 SA MA MO MB D0 S0 a0 a1 a2 a3 a4 a5 az c0 c1 c2 c3 c4
    have hc := hr _ HD2.out
    have c1 := Mem.cell MO2.out 1
    have c2 := Mem.cell MO2.out 2
    have c3 := Mem.cell MO2.out 3
    have c4 := Mem.cell MO2.out 4
    simp at c1 c2 c3 c4
    go_upto_region 15 with (go_at_call 75; refine hc.mono ?_; rintro e w2 ⟨rfl, hD, hS⟩; have MB3 := Mem.of_eq MB2.out (hS.block _ MB2.out.lt (.inr (by omega))); have a0 := Mem.cell MB3 0; have a1 := Mem.cell MB3 1; have a2 := Mem.cell MB3 2; have a3 := Mem.cell MB3 3; have a4 := Mem.cell MB3 4; have a5 := Mem.cell MB3 5; have az := Mem.frozen MB3)
    have MB3 : Mem w2 (w.heap.size + 2) 57 #[.int .i64 0, .int .i64 0, .int .i64 0, .int .u64 0, .int .u64 0, .bool false] := Mem.of_eq MB2.out (hS.block _ MB2.out.lt (.inr (by omega)))
    have MA3 : Mem w2 (w.heap.size + 1) 57 #[.int .i64 k1, .int .i64 k2, .int .i64 k3, .int .u64 k4, .int .u64 k5, .bool d] := Mem.of_eq HA2.out (hS.block _ HA2.out.lt (.inr (by omega)))
    obtain ⟨MB4, SB⟩ := store6 MB3 (.int .i64 k1) (.int .i64 k2) (.int .i64 k3) (.int .u64 k4) (.int .u64 k5) (.bool d)
    have MA4 := Mem.of_eq MA3 (SB.block _ MA3.lt (.inl (by omega)))
    have HD4 := Lib.hid (hD.fr (P := fun x => x = w.heap.size + 2) (Fr.of_stay SB fun x a c => by omega) fun x a c => by omega)
    have HS4 := Lib.hid (Stay.over (HS2.out.trans hS) SB (by omega))
    obtain ⟨W2, hW⟩ : ∃ W2, ((((((w2.setCell ⟨w.heap.size + 2, 0, none⟩ (.int .i64 k1)).setCell ⟨w.heap.size + 2, 1, none⟩ (.int .i64 k2)).setCell ⟨w.heap.size + 2, 2, none⟩ (.int .i64 k3)).setCell ⟨w.heap.size + 2, 3, none⟩ (.int .u64 k4)).setCell ⟨w.heap.size + 2, 4, none⟩ (.int .u64 k5)).setCell ⟨w.heap.size + 2, 5, none⟩ (.bool d)) = W2 := ⟨_, rfl⟩
    rw [hW] at MA4 MB4 HD4 HS4
    first | rw [hW] | skip
    clear hW hc hD hS MB3 MA3 SB hr HA2 MO2 MB2 HD2 HS2 a0 a1 a2 a3 a4 a5 az c1 c2 c3 c4
    have b0 := MA4.cell 0
    have b1 := MA4.cell 1
    have b2 := MA4.cell 2
    have b3 := MA4.cell 3
    have b4 := MA4.cell 4
    have b5 := MA4.cell 5
    have e0 := MB4.cell 0
    have e1 := MB4.cell 1
    have e2 := MB4.cell 2
    have e3 := MB4.cell 3
    have e4 := MB4.cell 4
    have e5 := MB4.cell 5
    simp at b0 b1 b2 b3 b4 b5 e0 e1 e2 e3 e4 e5
    clear MA4 MB4
    rcases hcase with ⟨rfl, rfl⟩ | ⟨rfl, rfl, rfl, rfl, rfl, rfl, rfl⟩
    · go_wp2
      go_ret
      exact ⟨rfl, A', HD4.out, HS4.out⟩
    · go_wp2
      go_ret
      exact ⟨rfl, A', HD4.out, HS4.out⟩
  · obtain ⟨A', k1, k2, k3, k4, k5, d, er, hcase, hc, hr⟩ := t_store D0.out c i v
    go_upto_region 11 with (go_at_call 33; refine hc.mono ?_; rintro e w1 ⟨rfl, hD, hS⟩; have MA1 := Mem.of_eq MA.out (hS.block _ MA.out.lt (.inr (by omega))); have MO1 := Mem.of_eq MO.out (hS.block _ MO.out.lt (.inr htop)); have a0 := Mem.cell MA1 0; have a1 := Mem.cell MA1 1; have a2 := Mem.cell MA1 2; have a3 := Mem.cell MA1 3; have a4 := Mem.cell MA1 4; have a5 := Mem.cell MA1 5; have az := Mem.frozen MA1)
    have MA1 : Mem w1 (w.heap.size + 1) 57 #[.int .i64 0, .int .i64 0, .int .i64 0, .int .u64 0, .int .u64 0, .bool false] := Mem.of_eq MA.out (hS.block _ MA.out.lt (.inr (by omega)))
    have MO1 : Mem w1 w.heap.size 51 #[.int .i64 K, .int .i64 c, .int .i64 i, .int .u64 o, .int .u64 v] := Mem.of_eq MO.out (hS.block _ MO.out.lt (.inr htop))
    have MB1 : Mem w1 (w.heap.size + 2) 57 #[.int .i64 0, .int .i64 0, .int .i64 0, .int .u64 0, .int .u64 0, .bool false] := Mem.of_eq MB.out (hS.block _ MB.out.lt (.inr (by omega)))
    obtain ⟨MA2, SA⟩ := store6 MA1 (.int .i64 k1) (.int .i64 k2) (.int .i64 k3) (.int .u64 k4) (.int .u64 k5) (.bool d)
    have MO2 := Lib.hid (Mem.of_eq MO1 (SA.block _ MO1.lt (.inl (by omega))))
    have MB2 := Lib.hid (Mem.of_eq MB1 (SA.block _ MB1.lt (.inr (by omega))))
    have HA2 := Lib.hid MA2
    have HD2 := Lib.hid (hD.fr (P := fun x => x = w.heap.size + 1) (Fr.of_stay SA fun x a c => by omega) fun x a c => by omega)
    have HS2 := Lib.hid (Stay.over (S0.out.trans hS) SA (by omega))
    obtain ⟨W1, hW⟩ : ∃ W1, ((((((w1.setCell ⟨w.heap.size + 1, 0, none⟩ (.int .i64 k1)).setCell ⟨w.heap.size + 1, 1, none⟩ (.int .i64 k2)).setCell ⟨w.heap.size + 1, 2, none⟩ (.int .i64 k3)).setCell ⟨w.heap.size + 1, 3, none⟩ (.int .u64 k4)).setCell ⟨w.heap.size + 1, 4, none⟩ (.int .u64 k5)).setCell ⟨w.heap.size + 1, 5, none⟩ (.bool d)) = W1 := ⟨_, rfl⟩
    rw [hW] at MO2 MB2 HA2 HD2 HS2
    first | rw [hW] | skip
    clear hW hc hD hS MA1 MO1 MB1 MA2 SA MA MO MB D0 S0 a0 a1 a2 a3 a4 a5 az c0 c1 c2 c3 c4
    have hc := hr _ HD2.out
    have c1 := Mem.cell MO2.out 1
    have c2 := Mem.cell MO2.out 2
    have c3 := Mem.cell MO2.out 3
    have c4 := Mem.cell MO2.out 4
    simp at c1 c2 c3 c4
    go_upto_region 15 with (go_at_call 76; refine hc.mono ?_; rintro e w2 ⟨rfl, hD, hS⟩; have MB3 := Mem.of_eq MB2.out (hS.block _ MB2.out.lt (.inr (by omega))); have a0 := Mem.cell MB3 0; have a1 := Mem.cell MB3 1; have a2 := Mem.cell MB3 2; have a3 := Mem.cell MB3 3; have a4 := Mem.cell MB3 4; have a5 := Mem.cell MB3 5; have az := Mem.frozen MB3)
    have MB3 : Mem w2 (w.heap.size + 2) 57 #[.int .i64 0, .int .i64 0, .int .i64 0, .int .u64 0, .int .u64 0, .bool false] := Mem.of_eq MB2.out (hS.block _ MB2.out.lt (.inr (by omega)))
    have MA3 : Mem w2 (w.heap.size + 1) 57 #[.int .i64 k1, .int .i64 k2, .int .i64 k3, .int .u64 k4, .int .u64 k5, .bool d] := Mem.of_eq HA2.out (hS.block _ HA2.out.lt (.inr (by omega)))
    obtain ⟨MB4, SB⟩ := store6 MB3 (.int .i64 k1) (.int .i64 k2) (.int .i64 k3) (.int .u64 k4) (.int .u64 k5) (.bool d)
    have MA4 := Mem.of_eq MA3 (SB.block _ MA3.lt (.inl (by omega)))
    have HD4 := Lib.hid (hD.fr (P := fun x => x = w.heap.size + 2) (Fr.of_stay SB fun x a c => by omega) fun x a c => by omega)
    have HS4 := Lib.hid (Stay.over (HS2.out.trans hS) SB (by omega))
    obtain ⟨W2, hW⟩ : ∃ W2, ((((((w2.setCell ⟨w.heap.size + 2, 0, none⟩ (.int .i64 k1)).setCell ⟨w.heap.size + 2, 1, none⟩ (.int .i64 k2)).setCell ⟨w.heap.size + 2, 2, none⟩ (.int .i64 k3)).setCell ⟨w.heap.size + 2, 3, none⟩ (.int .u64 k4)).setCell ⟨w.heap.size + 2, 4, none⟩ (.int .u64 k5)).setCell ⟨w.heap.size + 2, 5, none⟩ (.bool d)) = W2 := ⟨_, rfl⟩
    rw [hW] at MA4 MB4 HD4 HS4
    first | rw [hW] | skip
    clear hW hc hD hS MB3 MA3 SB hr HA2 MO2 MB2 HD2 HS2 a0 a1 a2 a3 a4 a5 az c1 c2 c3 c4
    have b0 := MA4.cell 0
    have b1 := MA4.cell 1
    have b2 := MA4.cell 2
    have b3 := MA4.cell 3
    have b4 := MA4.cell 4
    have b5 := MA4.cell 5
    have e0 := MB4.cell 0
    have e1 := MB4.cell 1
    have e2 := MB4.cell 2
    have e3 := MB4.cell 3
    have e4 := MB4.cell 4
    have e5 := MB4.cell 5
    simp at b0 b1 b2 b3 b4 b5 e0 e1 e2 e3 e4 e5
    clear MA4 MB4
    rcases hcase with ⟨rfl, rfl⟩ | ⟨rfl, rfl, rfl, rfl, rfl, rfl, rfl⟩
    · go_wp2
      go_ret
      exact ⟨rfl, A', HD4.out, HS4.out⟩
    · go_wp2
      go_ret
      exact ⟨rfl, A', HD4.out, HS4.out⟩
  · obtain ⟨A', k1, k2, k3, k4, k5, d, er, hcase, hc, hr⟩ := t_swap D0.out c i o v
    go_upto_region 14 with (go_at_call 30; refine hc.mono ?_; rintro e w1 ⟨rfl, hD, hS⟩; have MA1 := Mem.of_eq MA.out (hS.block _ MA.out.lt (.inr (by omega))); have MO1 := Mem.of_eq MO.out (hS.block _ MO.out.lt (.inr htop)); have a0 := Mem.cell MA1 0; have a1 := Mem.cell MA1 1; have a2 := Mem.cell MA1 2; have a3 := Mem.cell MA1 3; have a4 := Mem.cell MA1 4; have a5 := Mem.cell MA1 5; have az := Mem.frozen MA1)
    have MA1 : Mem w1 (w.heap.size + 1) 57 #[.int .i64 0, .int .i64 0, .int .i64 0, .int .u64 0, .int .u64 0, .bool false] := Mem.of_eq MA.out (hS.block _ MA.out.lt (.inr (by omega)))
    have MO1 : Mem w1 w.heap.size 51 #[.int .i64 K, .int .i64 c, .int .i64 i, .int .u64 o, .int .u64 v] := Mem.of_eq MO.out (hS.block _ MO.out.lt (.inr htop))
    have MB1 : Mem w1 (w.heap.size + 2) 57 #[.int .i64 0, .int .i64 0, .int .i64 0, .int .u64 0, .int .u64 0, .bool false] := Mem.of_eq MB.out (hS.block _ MB.out.lt (.inr (by omega)))
    obtain ⟨MA2, SA⟩ := store6 MA1 (.int .i64 k1) (.int .i64 k2) (.int .i64 k3) (.int .u64 k4) (.int .u64 k5) (.bool d)
    have MO2 := Lib.hid (Mem.of_eq MO1 (SA.block _ MO1.lt (.inl (by omega))))
    have MB2 := Lib.hid (Mem.of_eq MB1 (SA.block _ MB1.lt (.inr (by omega))))
    have HA2 := Lib.hid MA2
    have HD2 := Lib.hid (hD.fr (P := fun x => x = w.heap.size + 1) (Fr.of_stay SA fun x a c => by omega) fun x a c => by omega)
    have HS2 := Lib.hid (Stay.over (S0.out.trans hS) SA (by omega))
    obtain ⟨W1, hW⟩ : ∃ W1, ((((((w1.setCell ⟨w.heap.size + 1, 0, none⟩ (.int .i64 k1)).setCell ⟨w.heap.size + 1, 1, none⟩ (.int .i64 k2)).setCell ⟨w.heap.size + 1, 2, none⟩ (.int .i64 k3)).setCell ⟨w.heap.size + 1, 3, none⟩ (.int .u64 k4)).setCell ⟨w.heap.size + 1, 4, none⟩ (.int .u64 k5)).setCell ⟨w.heap.size + 1, 5, none⟩ (.bool d)) = W1 := ⟨_, rfl⟩
    rw [hW] at MO2 MB2 HA2 HD2 HS2
    first | rw [hW] | skip
    clear hW hc hD hS MA1 MO1 MB1 MA2 SA MA MO MB D0 S0 a0 a1 a2 a3 a4 a5 az c0 c1 c2 c3 c4
    have hc := hr _ HD2.out
    have c1 := Mem.cell MO2.out 1
    have c2 := Mem.cell MO2.out 2
    have c3 := Mem.cell MO2.out 3
    have c4 := Mem.cell MO2.out 4
    simp at c1 c2 c3 c4
    go_upto_region 15 with (go_at_call 77; refine hc.mono ?_; rintro e w2 ⟨rfl, hD, hS⟩; have MB3 := Mem.of_eq MB2.out (hS.block _ MB2.out.lt (.inr (by omega))); have a0 := Mem.cell MB3 0; have a1 := Mem.cell MB3 1; have a2 := Mem.cell MB3 2; have a3 := Mem.cell MB3 3; have a4 := Mem.cell MB3 4; have a5 := Mem.cell MB3 5; have az := Mem.frozen MB3)
    have MB3 : Mem w2 (w.heap.size + 2) 57 #[.int .i64 0, .int .i64 0, .int .i64 0, .int .u64 0, .int .u64 0, .bool false] := Mem.of_eq MB2.out (hS.block _ MB2.out.lt (.inr (by omega)))
    have MA3 : Mem w2 (w.heap.size + 1) 57 #[.int .i64 k1, .int .i64 k2, .int .i64 k3, .int .u64 k4, .int .u64 k5, .bool d] := Mem.of_eq HA2.out (hS.block _ HA2.out.lt (.inr (by omega)))
    obtain ⟨MB4, SB⟩ := store6 MB3 (.int .i64 k1) (.int .i64 k2) (.int .i64 k3) (.int .u64 k4) (.int .u64 k5) (.bool d)
    have MA4 := Mem.of_eq MA3 (SB.block _ MA3.lt (.inl (by omega)))
    have HD4 := Lib.hid (hD.fr (P := fun x => x = w.heap.size + 2) (Fr.of_stay SB fun x a c => by omega) fun x a c => by omega)
    have HS4 := Lib.hid (Stay.over (HS2.out.trans hS) SB (by omega))
    obtain ⟨W2, hW⟩ : ∃ W2, ((((((w2.setCell ⟨w.heap.size + 2, 0, none⟩ (.int .i64 k1)).setCell ⟨w.heap.size + 2, 1, none⟩ (.int .i64 k2)).setCell ⟨w.heap.size + 2, 2, none⟩ (.int .i64 k3)).setCell ⟨w.heap.size + 2, 3, none⟩ (.int .u64 k4)).setCell ⟨w.heap.size + 2, 4, none⟩ (.int .u64 k5)).setCell ⟨w.heap.size + 2, 5, none⟩ (.bool d)) = W2 := ⟨_, rfl⟩
    rw [hW] at MA4 MB4 HD4 HS4
    first | rw [hW] | skip
    clear hW hc hD hS MB3 MA3 SB hr HA2 MO2 MB2 HD2 HS2 a0 a1 a2 a3 a4 a5 az c1 c2 c3 c4
    have b0 := MA4.cell 0
    have b1 := MA4.cell 1
    have b2 := MA4.cell 2
    have b3 := MA4.cell 3
    have b4 := MA4.cell 4
    have b5 := MA4.cell 5
    have e0 := MB4.cell 0
    have e1 := MB4.cell 1
    have e2 := MB4.cell 2
    have e3 := MB4.cell 3
    have e4 := MB4.cell 4
    have e5 := MB4.cell 5
    simp at b0 b1 b2 b3 b4 b5 e0 e1 e2 e3 e4 e5
    clear MA4 MB4
    rcases hcase with ⟨rfl, rfl⟩ | ⟨rfl, rfl, rfl, rfl, rfl, rfl, rfl⟩
    · go_wp2
      go_ret
      exact ⟨rfl, A', HD4.out, HS4.out⟩
    · go_wp2
      go_ret
      exact ⟨rfl, A', HD4.out, HS4.out⟩
  · obtain ⟨A', k1, k2, k3, k4, k5, d, er, hcase, hc, hr⟩ := t_add D0.out c i v
    go_upto_region 5 with (go_at_call 29; refine hc.mono ?_; rintro e w1 ⟨rfl, hD, hS⟩; have MA1 := Mem.of_eq MA.out (hS.block _ MA.out.lt (.inr (by omega))); have MO1 := Mem.of_eq MO.out (hS.block _ MO.out.lt (.inr htop)); have a0 := Mem.cell MA1 0; have a1 := Mem.cell MA1 1; have a2 := Mem.cell MA1 2; have a3 := Mem.cell MA1 3; have a4 := Mem.cell MA1 4; have a5 := Mem.cell MA1 5; have az := Mem.frozen MA1)
    have MA1 : Mem w1 (w.heap.size + 1) 57 #[.int .i64 0, .int .i64 0, .int .i64 0, .int .u64 0, .int .u64 0, .bool false] := Mem.of_eq MA.out (hS.block _ MA.out.lt (.inr (by omega)))
    have MO1 : Mem w1 w.heap.size 51 #[.int .i64 K, .int .i64 c, .int .i64 i, .int .u64 o, .int .u64 v] := Mem.of_eq MO.out (hS.block _ MO.out.lt (.inr htop))
    have MB1 : Mem w1 (w.heap.size + 2) 57 #[.int .i64 0, .int .i64 0, .int .i64 0, .int .u64 0, .int .u64 0, .bool false] := Mem.of_eq MB.out (hS.block _ MB.out.lt (.inr (by omega)))
    obtain ⟨MA2, SA⟩ := store6 MA1 (.int .i64 k1) (.int .i64 k2) (.int .i64 k3) (.int .u64 k4) (.int .u64 k5) (.bool d)
    have MO2 := Lib.hid (Mem.of_eq MO1 (SA.block _ MO1.lt (.inl (by omega))))
    have MB2 := Lib.hid (Mem.of_eq MB1 (SA.block _ MB1.lt (.inr (by omega))))
    have HA2 := Lib.hid MA2
    have HD2 := Lib.hid (hD.fr (P := fun x => x = w.heap.size + 1) (Fr.of_stay SA fun x a c => by omega) fun x a c => by omega)
    have HS2 := Lib.hid (Stay.over (S0.out.trans hS) SA (by omega))
    obtain ⟨W1, hW⟩ : ∃ W1, ((((((w1.setCell ⟨w.heap.size + 1, 0, none⟩ (.int .i64 k1)).setCell ⟨w.heap.size + 1, 1, none⟩ (.int .i64 k2)).setCell ⟨w.heap.size + 1, 2, none⟩ (.int .i64 k3)).setCell ⟨w.heap.size + 1, 3, none⟩ (.int .u64 k4)).setCell ⟨w.heap.size + 1, 4, none⟩ (.int .u64 k5)).setCell ⟨w.heap.size + 1, 5, none⟩ (.bool d)) = W1 := ⟨_, rfl⟩
    rw [hW] at MO2 MB2 HA2 HD2 HS2
    first | rw [hW] | skip
    clear hW hc hD hS MA1 MO1 MB1 MA2 SA MA MO MB D0 S0 a0 a1 a2 a3 a4 a5 az c0 c1 c2 c3 c4
    have hc := hr _ HD2.out
    have c1 := Mem.cell MO2.out 1
    have c2 := Mem.cell MO2.out 2
    have c3 := Mem.cell MO2.out 3
    have c4 := Mem.cell MO2.out 4
    simp at c1 c2 c3 c4
    go_upto_region 15 with (go_at_call 78; refine hc.mono ?_; rintro e w2 ⟨rfl, hD, hS⟩; have MB3 := Mem.of_eq MB2.out (hS.block _ MB2.out.lt (.inr (by omega))); have a0 := Mem.cell MB3 0; have a1 := Mem.cell MB3 1; have a2 := Mem.cell MB3 2; have a3 := Mem.cell MB3 3; have a4 := Mem.cell MB3 4; have a5 := Mem.cell MB3 5; have az := Mem.frozen MB3)
    have MB3 : Mem w2 (w.heap.size + 2) 57 #[.int .i64 0, .int .i64 0, .int .i64 0, .int .u64 0, .int .u64 0, .bool false] := Mem.of_eq MB2.out (hS.block _ MB2.out.lt (.inr (by omega)))
    have MA3 : Mem w2 (w.heap.size + 1) 57 #[.int .i64 k1, .int .i64 k2, .int .i64 k3, .int .u64 k4, .int .u64 k5, .bool d] := Mem.of_eq HA2.out (hS.block _ HA2.out.lt (.inr (by omega)))
    obtain ⟨MB4, SB⟩ := store6 MB3 (.int .i64 k1) (.int .i64 k2) (.int .i64 k3) (.int .u64 k4) (.int .u64 k5) (.bool d)
    have MA4 := Mem.of_eq MA3 (SB.block _ MA3.lt (.inl (by omega)))
    have HD4 := Lib.hid (hD.fr (P := fun x => x = w.heap.size + 2) (Fr.of_stay SB fun x a c => by omega) fun x a c => by omega)
    have HS4 := Lib.hid (Stay.over (HS2.out.trans hS) SB (by omega))
    obtain ⟨W2, hW⟩ : ∃ W2, ((((((w2.setCell ⟨w.heap.size + 2, 0, none⟩ (.int .i64 k1)).setCell ⟨w.heap.size + 2, 1, none⟩ (.int .i64 k2)).setCell ⟨w.heap.size + 2, 2, none⟩ (.int .i64 k3)).setCell ⟨w.heap.size + 2, 3, none⟩ (.int .u64 k4)).setCell ⟨w.heap.size + 2, 4, none⟩ (.int .u64 k5)).setCell ⟨w.heap.size + 2, 5, none⟩ (.bool d)) = W2 := ⟨_, rfl⟩
    rw [hW] at MA4 MB4 HD4 HS4
    first | rw [hW] | skip
    clear hW hc hD hS MB3 MA3 SB hr HA2 MO2 MB2 HD2 HS2 a0 a1 a2 a3 a4 a5 az c1 c2 c3 c4
    have b0 := MA4.cell 0
    have b1 := MA4.cell 1
    have b2 := MA4.cell 2
    have b3 := MA4.cell 3
    have b4 := MA4.cell 4
    have b5 := MA4.cell 5
    have e0 := MB4.cell 0
    have e1 := MB4.cell 1
    have e2 := MB4.cell 2
    have e3 := MB4.cell 3
    have e4 := MB4.cell 4
    have e5 := MB4.cell 5
    simp at b0 b1 b2 b3 b4 b5 e0 e1 e2 e3 e4 e5
    clear MA4 MB4
    rcases hcase with ⟨rfl, rfl⟩ | ⟨rfl, rfl, rfl, rfl, rfl, rfl, rfl⟩
    · go_wp2
      go_ret
      exact ⟨rfl, A', HD4.out, HS4.out⟩
    · go_wp2
      go_ret
      exact ⟨rfl, A', HD4.out, HS4.out⟩

end Go.Proofs.Ythgbfghhiadjpaa.CelDs
