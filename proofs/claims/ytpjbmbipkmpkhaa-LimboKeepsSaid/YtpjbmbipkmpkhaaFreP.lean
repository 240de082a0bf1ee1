/-
  Texts on no function: heads and chains of free blocks, and what the machines of four threads know of them; the list of a class, block by block.
-/
import Derived.Test.YtpjbmbipkmpkhaaRows
namespace Go.Proofs.Ytpjbmbipkmpkhaa.FreP
set_option linter.unusedVariables false

/-- The top of a list, counted from 1. -/
def hd : List Nat → Int
  | [] => 0
  | b :: _ => (b : Int) + 1
/-- Each block's link leads to the next. -/
def Links (N : List Int) : List Nat → Prop
  | [] => True
  | b :: l => N.getD b 0 = hd l ∧ Links N l
theorem hd_in {l : List Nat} (h : ∀ b ∈ l, b < 6) : 0 ≤ hd l ∧ hd l ≤ 6 := by
  cases l with
  | nil => exact ⟨by simp [hd], by simp [hd]⟩
  | cons b l =>
    have := h b (by simp)
    simp only [hd]
    omega
theorem getD_set_ne {N : List Int} {b c : Nat} {v : Int} (h : c ≠ b) : (N.set b v).getD c 0 = N.getD c 0 := by
  rw [List.getD_eq_getElem?_getD, List.getElem?_set_ne (Ne.symm h), ← List.getD_eq_getElem?_getD]
theorem getD_set_at {N : List Int} {b : Nat} {v : Int} (h : b < N.length) : (N.set b v).getD b 0 = v := by
  rw [List.getD_eq_getElem?_getD, List.getElem?_set_self h]
  rfl
theorem links_set {N : List Int} {b : Nat} {v : Int} : ∀ {l : List Nat}, b ∉ l → Links N l → Links (N.set b v) l
  | [], _, _ => trivial
  | c :: l, hb, h => by
    have h1 : c ≠ b := fun e => hb (by simp [e])
    have h2 : b ∉ l := fun e => hb (by simp [e])
    exact ⟨(getD_set_ne h1).trans h.1, links_set h2 h.2⟩

/-- A thread's machine: its box, its state, its class; a pop's loaded word and link; a push's block and loaded word. -/
inductive Th where
  | idle
  | pop (g st c : Nat) (x n : Int)
  | push (g st c b : Nat) (x : Int)
def up {α : Type} (p : Nat → α) (t : Nat) (o : α) : Nat → α := fun j => if j = t then o else p j
theorem up_at {α : Type} (p : Nat → α) (t : Nat) (o : α) : up p t o t = o := if_pos rfl
theorem up_ne {α : Type} {p : Nat → α} {t j : Nat} {o : α} (h : j ≠ t) : up p t o j = p j := if_neg h
theorem up_up {α : Type} (p : Nat → α) (t : Nat) (o o' : α) : up (up p t o) t o' = up p t o' := by
  funext j
  by_cases e : j = t
  · subst e
    rw [up_at, up_at]
  · rw [up_ne e, up_ne e, up_ne e]
theorem up_same {α : Type} {p : Nat → α} {t : Nat} {o : α} (h : p t = o) : up p t o = p := by
  funext j
  by_cases e : j = t
  · subst e
    rw [up_at, h]
  · rw [up_ne e]
/-- The blocks that a machine holds. -/
def pb : Th → List Nat
  | .push _ _ _ b _ => [b]
  | _ => []
/-- How often block b is somewhere. -/
def tot (L : Nat → List Nat) (held : List Nat) (p : Nat → Th) (b : Nat) : Nat :=
  (L 0).count b + (L 1).count b + (L 2).count b + (L 3).count b + held.count b + (pb (p 0)).count b + (pb (p 1)).count b + (pb (p 2)).count b + (pb (p 3)).count b
theorem four {t : Nat} (h : t ≤ 3) : t = 0 ∨ t = 1 ∨ t = 2 ∨ t = 3 := by omega
theorem tot_p (L : Nat → List Nat) (held : List Nat) (p : Nat → Th) {t : Nat} (h : t ≤ 3) (o : Th) (b : Nat) : tot L held (up p t o) b + (pb (p t)).count b = tot L held p b + (pb o).count b := by
  rcases four h with rfl | rfl | rfl | rfl <;> simp [tot, up] <;> omega
theorem tot_L (L : Nat → List Nat) (held : List Nat) (p : Nat → Th) {c : Nat} (h : c ≤ 3) (l : List Nat) (b : Nat) : tot (up L c l) held p b + (L c).count b = tot L held p b + l.count b := by
  rcases four h with rfl | rfl | rfl | rfl <;> simp [tot, up] <;> omega
theorem tot_h (L : Nat → List Nat) (held held' : List Nat) (p : Nat → Th) (b : Nat) : tot L held' p b + held.count b = tot L held p b + held'.count b := by
  simp only [tot]
  omega
theorem tot_ge_p (L : Nat → List Nat) (held : List Nat) (p : Nat → Th) {t : Nat} (h : t ≤ 3) (b : Nat) : (pb (p t)).count b ≤ tot L held p b := by
  rcases four h with rfl | rfl | rfl | rfl <;> simp only [tot] <;> omega
theorem tot_pL (L : Nat → List Nat) (held : List Nat) (p : Nat → Th) {t c : Nat} (h : t ≤ 3) (hc : c ≤ 3) (b : Nat) : (pb (p t)).count b + (L c).count b ≤ tot L held p b := by
  rcases four h with rfl | rfl | rfl | rfl <;> rcases four hc with rfl | rfl | rfl | rfl <;> simp only [tot] <;> omega
theorem tot_pp (L : Nat → List Nat) (held : List Nat) (p : Nat → Th) {t u : Nat} (h : t ≤ 3) (hu : u ≤ 3) (hne : t ≠ u) (b : Nat) : (pb (p t)).count b + (pb (p u)).count b ≤ tot L held p b := by
  rcases four h with rfl | rfl | rfl | rfl <;> rcases four hu with rfl | rfl | rfl | rfl <;> simp only [tot] <;> omega
theorem tot_LL (L : Nat → List Nat) (held : List Nat) (p : Nat → Th) {c : Nat} (hc : c ≤ 3) (b : Nat) : (L c).count b ≤ tot L held p b := by
  rcases four hc with rfl | rfl | rfl | rfl <;> simp only [tot] <;> omega

/-- The class of a block of the six. -/
def cl (b : Nat) : Nat := if b < 3 then 0 else if b < 5 then 1 else 2
/-- x was the head of class c. -/
def Seen (T : Nat → Int) (L : Nat → List Nat) (c : Nat) (x : Int) : Prop := ∃ t p, x = t * 65536 + p ∧ 0 ≤ p ∧ p ≤ 6 ∧ 0 ≤ t ∧ t ≤ T c ∧ (t = T c → p = hd (L c))
/-- What a machine knows. -/
def okTh (T : Nat → Int) (L : Nat → List Nat) (N : List Int) : Th → Prop
  | .idle => True
  | .pop _ st c x n => c ≤ 3 ∧ ((st = 0 ∨ st = 3) ∨ (st = 1 ∧ Seen T L c x ∧ 1 ≤ x % 65536) ∨ (st = 2 ∧ Seen T L c x ∧ 1 ≤ x % 65536 ∧ 0 ≤ n + 1 ∧ n + 1 ≤ 6 ∧ (x = T c * 65536 + hd (L c) → n + 1 = hd (L c).tail)))
  | .push _ st c b x => c = cl b ∧ b < 6 ∧ (st = 0 ∨ (st = 1 ∧ Seen T L c x) ∨ (st = 2 ∧ Seen T L c x ∧ N.getD b 0 = x % 65536))
structure Inv (K : Int) (T : Nat → Int) (L : Nat → List Nat) (N : List Int) (held : List Nat) (p : Nat → Th) : Prop where
  T0 : ∀ c, c ≤ 3 → 0 ≤ T c ∧ T c ≤ K
  len : N.length = 6
  nin : ∀ j, j < 6 → 0 ≤ N.getD j 0 ∧ N.getD j 0 ≤ 6
  lin : ∀ c, c ≤ 3 → Links N (L c)
  lcl : ∀ c, c ≤ 3 → ∀ b ∈ L c, b < 6 ∧ cl b = c
  hin : ∀ b ∈ held, b < 6
  one : ∀ b, b < 6 → tot L held p b = 1
  ok : ∀ t, t ≤ 3 → okTh T L N (p t)
theorem cl_in (b : Nat) : cl b ≤ 2 := by
  unfold cl
  split
  · omega
  · split <;> omega
section
variable {K : Int} {T : Nat → Int} {L : Nat → List Nat} {N : List Int} {held : List Nat} {p : Nat → Th} {t c g st b : Nat} {x n : Int}
theorem Inv.more (h : Inv K T L N held p) {K' : Int} (hk : K ≤ K') : Inv K' T L N held p :=
  ⟨fun c hc => ⟨(h.T0 c hc).1, by have := (h.T0 c hc).2; omega⟩, h.len, h.nin, h.lin, h.lcl, h.hin, h.one, h.ok⟩
theorem Inv.top (h : Inv K T L N held p) (hc : c ≤ 3) : 0 ≤ hd (L c) ∧ hd (L c) ≤ 6 := hd_in fun b hb => (h.lcl c hc b hb).1
theorem Inv.seen (h : Inv K T L N held p) (hc : c ≤ 3) : Seen T L c (T c * 65536 + hd (L c)) :=
  ⟨T c, hd (L c), rfl, (h.top hc).1, (h.top hc).2, (h.T0 c hc).1, Int.le_refl _, fun _ => rfl⟩
/-- A thread's machine turns, the lists stay. -/
theorem Inv.turn (h : Inv K T L N held p) (ht : t ≤ 3) {o : Th} (hb : pb o = pb (p t)) (ho : okTh T L N o) : Inv K T L N held (up p t o) :=
  ⟨h.T0, h.len, h.nin, h.lin, h.lcl, h.hin, fun b hb6 => by
    have h1 := tot_p L held p ht o b
    have h2 := h.one b hb6
    rw [hb] at h1
    omega, fun u hu => by
    by_cases e : u = t
    · subst e
      rw [up_at]
      exact ho
    · rw [up_ne e]
      exact h.ok u hu⟩
/-- A thread begins to push a held block. -/
theorem Inv.push (h : Inv K T L N (b :: held) p) (ht : t ≤ 3) (hb : pb (p t) = []) (g : Nat) (x : Int) : Inv K T L N held (up p t (.push g 0 (cl b) b x)) := by
  have hb6 := h.hin b (by simp)
  refine ⟨h.T0, h.len, h.nin, h.lin, h.lcl, fun c hc => h.hin c (by simp [hc]), fun c hc => ?_, fun u hu => ?_⟩
  · have h1 := tot_p L held p ht (.push g 0 (cl b) b x) c
    have h2 := h.one c hc
    have h3 := tot_h L (b :: held) held p c
    rw [hb] at h1
    simp only [pb, List.count_cons, List.count_nil] at h1 h3
    omega
  · by_cases e : u = t
    · subst e
      rw [up_at]
      exact ⟨rfl, hb6, .inl rfl⟩
    · rw [up_ne e]
      exact h.ok u hu
/-- Block b, which a push holds, is in no list. -/
theorem Inv.out (h : Inv K T L N held p) (ht : t ≤ 3) (hp : p t = .push g st c b x) (k : Nat) (hk : k ≤ 3) : b ∉ L k := by
  have hb : b < 6 := by
    have := h.ok t ht
    rw [hp] at this
    exact this.2.1
  have h1 := tot_pL L held p ht hk b
  have h2 := h.one b hb
  rw [hp] at h1
  simp [pb] at h1
  intro hm
  have := List.count_pos_iff.2 hm
  omega
/-- A push stores its link. -/
theorem Inv.link (h : Inv K T L N held p) (ht : t ≤ 3) (hp : p t = .push g st c b x) (hx : Seen T L c x) (g' : Nat) : Inv K T L (N.set b (x % 65536)) held (up p t (.push g' 2 c b x)) := by
  have hok := h.ok t ht
  rw [hp] at hok
  have hb := hok.2.1
  have hx6 : 0 ≤ x % 65536 ∧ x % 65536 ≤ 6 := by
    obtain ⟨a, q, rfl, h1, h2, _⟩ := hx
    omega
  refine ⟨h.T0, by rw [List.length_set]; exact h.len, fun j hj => ?_, fun k hk => links_set (h.out ht hp k hk) (h.lin k hk), h.lcl, h.hin, fun j hj => ?_, fun u hu => ?_⟩
  · by_cases e : j = b
    · subst e
      rw [getD_set_at (by rw [h.len]; exact hj)]
      exact hx6
    · rw [getD_set_ne e]
      exact h.nin j hj
  · have h1 := tot_p L held p ht (.push g' 2 c b x) j
    have h2 := h.one j hj
    rw [hp] at h1
    simp only [pb] at h1
    omega
  · by_cases e : u = t
    · subst e
      rw [up_at]
      exact ⟨hok.1, hb, .inr (.inr ⟨rfl, hx, getD_set_at (by rw [h.len]; exact hb)⟩)⟩
    · rw [up_ne e]
      have h2 := h.ok u hu
      cases hq : p u with
      | idle => trivial
      | pop g2 st2 c2 x2 n2 => rw [hq] at h2; exact h2
      | push g2 st2 c2 b2 x2 =>
        rw [hq] at h2
        obtain ⟨h3, h4, h5⟩ := h2
        have hne : b2 ≠ b := by
          intro e2
          subst e2
          have h6 := tot_pp L held p ht hu (Ne.symm e) b2
          have h7 := h.one b2 hb
          rw [hp, hq] at h6
          simp [pb] at h6
          omega
        refine ⟨h3, h4, ?_⟩
        rcases h5 with h5 | h5 | ⟨h5, h6, h7⟩
        · exact .inl h5
        · exact .inr (.inl h5)
        · exact .inr (.inr ⟨h5, h6, by rw [getD_set_ne hne]; exact h7⟩)
/-- What was seen stays seen when a head turns. -/
theorem Seen.bump {k : Nat} {l : List Nat} (h : Seen T L c x) : Seen (up T k (T k + 1)) (up L k l) c x := by
  obtain ⟨a, q, h1, h2, h3, h4, h5, h6⟩ := h
  refine ⟨a, q, h1, h2, h3, h4, ?_, fun e => ?_⟩
  · by_cases e : c = k
    · subst e
      rw [up_at]
      omega
    · rw [up_ne e]
      exact h5
  · by_cases e2 : c = k
    · subst e2
      rw [up_at] at e
      omega
    · rw [up_ne e2] at e
      rw [up_ne e2]
      exact h6 e
theorem ok_bump {k : Nat} {l : List Nat} {o : Th} (hT : ∀ c, c ≤ 3 → 0 ≤ T c) (hl : 0 ≤ hd l) (h : okTh T L N o) : okTh (up T k (T k + 1)) (up L k l) N o := by
  cases o with
  | idle => trivial
  | push g st c b x =>
    obtain ⟨h1, h2, h3⟩ := h
    refine ⟨h1, h2, ?_⟩
    rcases h3 with h3 | ⟨h3, h4⟩ | ⟨h3, h4, h5⟩
    · exact .inl h3
    · exact .inr (.inl ⟨h3, h4.bump⟩)
    · exact .inr (.inr ⟨h3, h4.bump, h5⟩)
  | pop g st c x n =>
    obtain ⟨h1, h3⟩ := h
    refine ⟨h1, ?_⟩
    rcases h3 with h3 | ⟨h3, h4⟩ | ⟨h3, h4, h5, h6, h7, h8⟩
    · exact .inl h3
    · exact .inr (.inl ⟨h3, h4.1.bump, h4.2⟩)
    · refine .inr (.inr ⟨h3, h4.bump, h5, h6, h7, fun e => ?_⟩)
      by_cases e2 : c = k
      · subst e2
        rw [up_at, up_at] at e
        obtain ⟨a, q, hx, q0, q6, a0, aT, _⟩ := h4
        omega
      · rw [up_ne e2, up_ne e2] at e
        rw [up_ne e2]
        exact h8 e
theorem seen_eq (h : Seen T L c x) (hl : 0 ≤ hd (L c) ∧ hd (L c) ≤ 6) (he : x = T c * 65536 + hd (L c)) : x / 65536 = T c ∧ x % 65536 = hd (L c) := by
  omega
/-- A pop takes the top. -/
theorem Inv.take (h : Inv K T L N held p) (ht : t ≤ 3) (hp : p t = .pop g 2 c x n) (he : x = T c * 65536 + hd (L c)) :
    ∃ l, ∃ b : Nat, L c = b :: l ∧ x % 65536 - 1 = b ∧ n + 1 = hd l ∧ Inv (K + 1) (up T c (T c + 1)) (up L c l) N (held ++ [b]) (up p t .idle) := by
  have hok := h.ok t ht
  rw [hp] at hok
  obtain ⟨hc, h3⟩ := hok
  rcases h3 with h3 | ⟨h3, _⟩ | ⟨_, h4, h5, h6, h7, h8⟩
  · omega
  · omega
  have h8 := h8 he
  obtain ⟨e1, e2⟩ := seen_eq h4 (h.top hc) he
  cases hl : L c with
  | nil =>
    rw [hl] at e2
    simp [hd] at e2
    omega
  | cons b l =>
    rw [hl] at e2 h8
    simp only [hd] at e2
    rw [List.tail_cons] at h8
    refine ⟨l, b, rfl, by omega, h8, fun k hk => ?_, h.len, h.nin, fun k hk => ?_, fun k hk j hj => ?_, fun j hj => ?_, fun j hj => ?_, fun u hu => ?_⟩
    · by_cases e : k = c
      · subst e
        rw [up_at]
        have := h.T0 k hk
        omega
      · rw [up_ne e]
        have := h.T0 k hk
        omega
    · by_cases e : k = c
      · subst e
        rw [up_at]
        have := h.lin k hk
        rw [hl] at this
        exact this.2
      · rw [up_ne e]
        exact h.lin k hk
    · by_cases e : k = c
      · subst e
        rw [up_at] at hj
        exact h.lcl k hk j (by rw [hl]; simp [hj])
      · rw [up_ne e] at hj
        exact h.lcl k hk j hj
    · rw [List.mem_append] at hj
      rcases hj with hj | hj
      · exact h.hin j hj
      · simp at hj
        subst hj
        exact (h.lcl c hc j (by rw [hl]; simp)).1
    · have h1 := tot_p (up L c l) (held ++ [b]) p ht .idle j
      have h2 := tot_L L (held ++ [b]) p hc l j
      have h9 := tot_h L held (held ++ [b]) p j
      have h10 := h.one j hj
      rw [hp] at h1
      rw [hl] at h2
      simp only [pb, List.count_nil, List.count_append, List.count_cons] at h1 h2 h9
      omega
    · have hl0 : 0 ≤ hd l := by rw [← h8]; exact h6
      by_cases e : u = t
      · subst e
        rw [up_at]
        trivial
      · rw [up_ne e]
        exact ok_bump (fun k hk => (h.T0 k hk).1) hl0 (h.ok u hu)
/-- A push puts its block on top. -/
theorem Inv.put (h : Inv K T L N held p) (ht : t ≤ 3) (hp : p t = .push g 2 c b x) (he : x = T c * 65536 + hd (L c)) :
    Inv (K + 1) (up T c (T c + 1)) (up L c (b :: L c)) N held (up p t .idle) := by
  have hok := h.ok t ht
  rw [hp] at hok
  obtain ⟨hcb, hb6, h3⟩ := hok
  have hc : c ≤ 3 := by have := cl_in b; omega
  rcases h3 with h3 | ⟨h3, _⟩ | ⟨_, h4, h5⟩
  · omega
  · omega
  obtain ⟨e1, e2⟩ := seen_eq h4 (h.top hc) he
  refine ⟨fun k hk => ?_, h.len, h.nin, fun k hk => ?_, fun k hk j hj => ?_, h.hin, fun j hj => ?_, fun u hu => ?_⟩
  · by_cases e : k = c
    · subst e
      rw [up_at]
      have := h.T0 k hk
      omega
    · rw [up_ne e]
      have := h.T0 k hk
      omega
  · by_cases e : k = c
    · subst e
      rw [up_at]
      exact ⟨h5.trans e2, h.lin k hk⟩
    · rw [up_ne e]
      exact h.lin k hk
  · by_cases e : k = c
    · subst e
      rw [up_at] at hj
      rcases List.mem_cons.1 hj with rfl | hj
      · exact ⟨hb6, hcb.symm⟩
      · exact h.lcl k hk j hj
    · rw [up_ne e] at hj
      exact h.lcl k hk j hj
  · have h1 := tot_p (up L c (b :: L c)) held p ht .idle j
    have h2 := tot_L L held p hc (b :: L c) j
    have h10 := h.one j hj
    rw [hp] at h1
    simp only [pb, List.count_nil, List.count_cons] at h1 h2
    omega
  · by_cases e : u = t
    · subst e
      rw [up_at]
      trivial
    · rw [up_ne e]
      exact ok_bump (fun k hk => (h.T0 k hk).1) (by simp [hd]; omega) (h.ok u hu)
/-- A pop has loaded its head. -/
theorem Inv.load (h : Inv K T L N held p) (ht : t ≤ 3) (hp : p t = .pop g 0 c x n) (hx : 1 ≤ hd (L c)) (g' : Nat) (n' : Int) : Inv K T L N held (up p t (.pop g' 1 c (T c * 65536 + hd (L c)) n')) := by
  have hok := h.ok t ht
  rw [hp] at hok
  have h6 := h.top hok.1
  exact h.turn ht (by rw [hp]; rfl) ⟨hok.1, .inr (.inl ⟨rfl, h.seen hok.1, by omega⟩)⟩
/-- A pop has loaded its link. -/
theorem Inv.next (h : Inv K T L N held p) (ht : t ≤ 3) (hp : p t = .pop g 1 c x n) (g' : Nat) : ∃ j : Nat, j < 6 ∧ x % 65536 - 1 = j ∧ 0 ≤ N.getD j 0 ∧ N.getD j 0 ≤ 6 ∧ Inv K T L N held (up p t (.pop g' 2 c x (N.getD j 0 - 1))) := by
  have hok := h.ok t ht
  rw [hp] at hok
  obtain ⟨hc, h3⟩ := hok
  rcases h3 with h3 | ⟨_, h4, h5⟩ | ⟨h3, _⟩
  · omega
  · have hs := h4
    obtain ⟨a, q, hx, q0, q6, a0, aT, hq⟩ := h4
    have e1 : x % 65536 = q := by omega
    refine ⟨(q - 1).toNat, by omega, by omega, (h.nin _ (by omega)).1, (h.nin _ (by omega)).2, h.turn ht (by rw [hp]; rfl) ⟨hc, .inr (.inr ⟨rfl, hs, h5, ?_, ?_, fun he => ?_⟩)⟩⟩
    · have := (h.nin (q - 1).toNat (by omega)).1
      omega
    · have := (h.nin (q - 1).toNat (by omega)).2
      omega
    · obtain ⟨_, e2⟩ := seen_eq hs (h.top hc) he
      have hl := h.lin c hc
      cases hL : L c with
      | nil =>
        rw [hL] at e2
        simp [hd] at e2
        omega
      | cons b l =>
        rw [hL] at e2 hl
        simp only [hd] at e2
        have : (q - 1).toNat = b := by omega
        rw [this]
        have := hl.1
        simp only [List.tail_cons]
        omega
  · omega
end
end Go.Proofs.Ytpjbmbipkmpkhaa.FreP

namespace Go.Proofs.Ytpjbmbipkmpkhaa.FreQ
open FreP
set_option linter.unusedVariables false

/-- The list from a link on: seen says which blocks are in it already, out names them. -/
def lsF : Nat → List Int → List Bool → List Int → Int → Option (List Int)
  | 0, _, _, _, _ => none
  | f + 1, N, seen, out, k => if k = 0 then some out else if (N.length : Int) < k then none else if seen.getD (k - 1).toNat false then none else lsF f N (seen.set (k - 1).toNat true) (out ++ [k - 1]) (N.getD (k - 1).toNat 0)
/-- The list of a class whose top, counted from 1, is k. -/
def lsV (N : List Int) (k : Int) : Option (List Int) := lsF (N.length + 1) N (List.replicate N.length false) [] k
theorem count_false {s : List Bool} {i : Nat} (h : s[i]? = some false) : (s.set i true).count false + 1 = s.count false := by
  induction s generalizing i with
  | nil => simp at h
  | cons a s ih =>
    cases i with
    | zero =>
      simp at h
      subst h
      simp
    | succ i =>
      simp only [List.getElem?_cons_succ] at h
      have := ih h
      simp only [List.set_cons_succ, List.count_cons]
      omega
theorem get_false {s : List Bool} {i : Nat} (hi : i < s.length) (h : s.getD i false = false) : s[i]? = some false := by
  rw [List.getD_eq_getElem?_getD, List.getElem?_eq_getElem hi, Option.getD_some] at h
  rw [List.getElem?_eq_getElem hi, h]
theorem ls_start (N : List Int) (k : Int) : lsV N k = lsF ((List.replicate N.length false).count false + 1) N (List.replicate N.length false) [] k := by
  rw [List.count_replicate_self]
  rfl
section
variable {N : List Int} {seen : List Bool} {out : List Int} {k : Int} {R : Option (List Int)}
theorem ls_end (h : lsF (seen.count false + 1) N seen out 0 = R) : R = some out := by
  rw [← h]
  rfl
theorem ls_far (h : lsF (seen.count false + 1) N seen out k = R) (h0 : 0 ≤ k) (hk : (N.length : Int) < k) : R = none := by
  rw [← h]
  unfold lsF
  rw [if_neg (by omega), if_pos hk]
theorem ls_twice (h : lsF (seen.count false + 1) N seen out k = R) (h0 : k ≠ 0) (hs : seen.getD (k - 1).toNat false = true) : R = none := by
  rw [← h]
  unfold lsF
  rw [if_neg h0]
  split
  · rfl
  · rfl
theorem ls_step (h : lsF (seen.count false + 1) N seen out k = R) (hl : seen.length = N.length) (h0 : 0 < k) (hk : k ≤ N.length) (hs : seen.getD (k - 1).toNat false = false) :
    lsF ((seen.set (k - 1).toNat true).count false + 1) N (seen.set (k - 1).toNat true) (out ++ [k - 1]) (N.getD (k - 1).toNat 0) = R ∧ (seen.set (k - 1).toNat true).count false + 1 = seen.count false := by
  have h1 := count_false (get_false (by omega) hs)
  refine ⟨?_, h1⟩
  rw [← h]
  conv => rhs; unfold lsF
  rw [if_neg (by omega), if_neg (by omega), hs, if_neg (by decide), h1]
end
/-- A chain without a block twice is its list. -/
theorem ls_chain {N : List Int} : ∀ (l : List Nat) (seen : List Bool) (out : List Int), Links N l → (∀ b ∈ l, b < N.length) → (∀ b, l.count b ≤ 1) → seen.length = N.length → (∀ b ∈ l, seen.getD b false = false) →
    lsF (seen.count false + 1) N seen out (hd l) = some (out ++ l.map (fun b : Nat => (b : Int)))
  | [], seen, out, _, _, _, _, _ => by simp [hd, lsF]
  | b :: l, seen, out, hL, hb, hc, hs, hf => by
    have hbl := hb b (by simp)
    have hfb := hf b (by simp)
    have h1 := count_false (get_false (by omega) hfb)
    have hnb : b ∉ l := by
      intro hm
      have h2 := List.count_pos_iff.2 hm
      have h3 := hc b
      rw [List.count_cons_self] at h3
      omega
    have ih := ls_chain l (seen.set b true) (out ++ [(b : Int)]) hL.2 (fun c hm => hb c (by simp [hm])) (fun c => by
      have := hc c
      rw [List.count_cons] at this
      omega) (by rw [List.length_set]; exact hs) (fun c hm => by
      have hne : c ≠ b := fun e => hnb (e ▸ hm)
      rw [List.getD_eq_getElem?_getD, List.getElem?_set_ne (Ne.symm hne), ← List.getD_eq_getElem?_getD]
      exact hf c (by simp [hm]))
    unfold lsF
    have e1 : ((hd (b :: l)) - 1).toNat = b := by simp only [hd]; omega
    have e2 : hd (b :: l) - 1 = (b : Int) := by simp only [hd]; omega
    rw [if_neg (by simp only [hd]; omega), if_neg (by simp only [hd]; omega), e1, e2, hfb, if_neg (by decide), ← h1, hL.1, ih]
    simp
theorem ls_of {N : List Int} {l : List Nat} (hL : Links N l) (hb : ∀ b ∈ l, b < N.length) (hc : ∀ b, l.count b ≤ 1) : lsV N (hd l) = some (l.map (fun b : Nat => (b : Int))) := by
  rw [ls_start, ls_chain l _ [] hL hb hc (by simp) (fun b hm => by
    rw [List.getD_eq_getElem?_getD, List.getElem?_replicate]
    split <;> rfl)]
  simp
theorem Inv.list {K : Int} {T : Nat → Int} {L : Nat → List Nat} {N : List Int} {held : List Nat} {p : Nat → Th} (h : Inv K T L N held p) {c : Nat} (hc : c ≤ 3) : lsV N (hd (L c)) = some ((L c).map (fun b : Nat => (b : Int))) :=
  ls_of (h.lin c hc) (fun b hb => by rw [h.len]; exact (h.lcl c hc b hb).1) (fun b => by
    by_cases hb : b ∈ L c
    · have h1 := tot_LL L held p hc b
      have h2 := h.one b (h.lcl c hc b hb).1
      omega
    · rw [List.count_eq_zero_of_not_mem hb]
      omega)
end Go.Proofs.Ytpjbmbipkmpkhaa.FreQ
