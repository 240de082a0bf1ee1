/-
  Plain text on no program: an index with open addressing; what a search finds; what an addition keeps.
-/
import Derived.Test.YtelpimhgodkmlaaRows
namespace Go.Proofs.Ytelpimhgodkmlaa.RlP
set_option linter.unusedVariables false
/-- The home of an address in an index of s places. -/
def home (s : Nat) (x : Int) : Nat := (5 * (x % (s : Int)) % (s : Int)).toNat
/-- The first empty place from p on. -/
def go (ix : List Int) : Nat → Nat → Nat
  | p, 0 => p
  | p, f + 1 => if ix[p]? = some (-1) then p else go ix ((p + 1) % ix.length) f
/-- The place of a new address. -/
def slot (ix : List Int) (x : Int) : Nat := go ix (home ix.length x) ix.length
theorem home_lt {s : Nat} (h : 0 < s) (x : Int) : home s x < s := by
  unfold home
  have h1 := Int.emod_nonneg (5 * (x % (s : Int))) (by omega : (s : Int) ≠ 0)
  have h2 := Int.emod_lt_of_pos (5 * (x % (s : Int))) (by omega : (0 : Int) < s)
  omega
theorem least {P : Nat → Prop} : ∀ n, P n → ∃ d, d ≤ n ∧ P d ∧ ∀ j, j < d → ¬ P j := by
  intro n
  induction n using Nat.strongRecOn with
  | _ n ih =>
    intro h
    by_cases hx : ∃ m, m < n ∧ P m
    · obtain ⟨m, hm, hp⟩ := hx
      obtain ⟨d, h1, h2, h3⟩ := ih m hm hp
      exact ⟨d, by omega, h2, h3⟩
    · exact ⟨n, Nat.le_refl _, h, fun j hj hp => hx ⟨j, hj, hp⟩⟩
theorem reach {s h e : Nat} (hh : h < s) (he : e < s) : ∃ d, d < s ∧ (h + d) % s = e := by
  by_cases c : h ≤ e
  · exact ⟨e - h, by omega, by rw [show h + (e - h) = e by omega, Nat.mod_eq_of_lt he]⟩
  · exact ⟨e + s - h, by omega, by rw [show h + (e + s - h) = e + s by omega, Nat.add_mod_right, Nat.mod_eq_of_lt he]⟩
theorem dist {s a e : Nat} (ha : a < s) (he : e < s) : ((a + e) % s + s - a) % s = e := by
  by_cases c : a + e < s
  · rw [Nat.mod_eq_of_lt c, show a + e + s - a = e + s by omega, Nat.add_mod_right, Nat.mod_eq_of_lt he]
  · rw [show a + e = (a + e - s) + s by omega, Nat.add_mod_right, Nat.mod_eq_of_lt (by omega : a + e - s < s), show a + e - s + s - a = e by omega, Nat.mod_eq_of_lt he]
theorem go_spec (ix : List Int) : ∀ (d h f : Nat), h < ix.length → d ≤ f → (∀ j, j < d → ix[(h + j) % ix.length]? ≠ some (-1)) → ix[(h + d) % ix.length]? = some (-1) → go ix h f = (h + d) % ix.length := by
  intro d
  induction d with
  | zero =>
    intro h f hh _ _ he
    rw [Nat.add_zero, Nat.mod_eq_of_lt hh] at he ⊢
    cases f with
    | zero => rfl
    | succ f => unfold go; rw [if_pos he]
  | succ d ih =>
    intro h f hh hf hn he
    cases f with
    | zero => omega
    | succ f =>
      have h0 := hn 0 (by omega)
      rw [Nat.add_zero, Nat.mod_eq_of_lt hh] at h0
      unfold go
      have hn2 : ∀ j, j < d → ix[((h + 1) % ix.length + j) % ix.length]? ≠ some (-1) := fun j hj => by
        rw [Nat.mod_add_mod, show h + 1 + j = h + (j + 1) by omega]
        exact hn (j + 1) (by omega)
      have he2 : ix[((h + 1) % ix.length + d) % ix.length]? = some (-1) := by
        rw [Nat.mod_add_mod, show h + 1 + d = h + (d + 1) by omega]
        exact he
      rw [if_neg h0, ih ((h + 1) % ix.length) f (Nat.mod_lt _ (by omega)) (by omega) hn2 he2, Nat.mod_add_mod, show h + 1 + d = h + (d + 1) by omega]
/-- A log that is kept as it should be. -/
structure Ok (cap : Nat) (ad vs ix : List Int) : Prop where
  few : ad.length ≤ cap
  lv : vs.length = ad.length
  room : cap < ix.length
  sz : ix.length ≤ 64
  nd : ad.Nodup
  nn : ∀ x ∈ ad, 0 ≤ x
  cnt : ix.countP (fun i : Int => decide (0 ≤ i)) = ad.length
  ent : ∀ (p : Nat) (i : Int), ix[p]? = some i → i = -1 ∨ (0 ≤ i ∧ i < ad.length)
  hasp : ∀ i : Nat, i < ad.length → ∃ p : Nat, ix[p]? = some (i : Int)
  uniq : ∀ (p q : Nat) (i : Int), ix[p]? = some i → ix[q]? = some i → 0 ≤ i → p = q
  path : ∀ (p i : Nat) (x : Int), ix[p]? = some (i : Int) → ad[i]? = some x → ∃ d, d < ix.length ∧ (home ix.length x + d) % ix.length = p ∧ ∀ j, j < d → ix[(home ix.length x + j) % ix.length]? ≠ some (-1)
theorem Ok.fresh {cap s : Nat} (h : cap < s) (hs : s ≤ 64) : Ok cap [] [] (List.replicate s (-1)) := by
  have hr : ∀ (p : Nat) (i : Int), (List.replicate s (-1 : Int))[p]? = some i → i = -1 := fun p i h => by
    rw [List.getElem?_replicate] at h
    split at h
    · injection h with h
      exact h.symm
    · cases h
  refine ⟨Nat.zero_le _, rfl, by simpa using h, by simpa using hs, List.nodup_nil, fun x hx => by simp at hx, ?_, fun p i hi => .inl (hr p i hi), fun i hi => by simp at hi, fun p q i h1 _ h0 => ?_, fun p i x h1 h2 => by simp at h2⟩
  · rw [List.length_nil, List.countP_eq_zero]
    intro a ha
    rw [List.mem_replicate] at ha
    simp [ha.2]
  · have := hr p i h1
    omega
section
variable {cap : Nat} {ad vs ix : List Int}
theorem Ok.empty (h : Ok cap ad vs ix) : ∃ e, e < ix.length ∧ ix[e]? = some (-1) := by
  by_cases hx : ∀ a ∈ ix, 0 ≤ a
  · have : ix.countP (fun i : Int => decide (0 ≤ i)) = ix.length := List.countP_eq_length.2 fun a ha => decide_eq_true (hx a ha)
    have h1 := h.cnt
    have h2 := h.few
    have h3 := h.room
    omega
  · have : ∃ a, a ∈ ix ∧ ¬ 0 ≤ a := by
      refine Classical.byContradiction fun hc => hx fun a ha => Classical.byContradiction fun hn => hc ⟨a, ha, hn⟩
    obtain ⟨a, ha, hn⟩ := this
    obtain ⟨e, he, hea⟩ := List.getElem_of_mem ha
    refine ⟨e, he, ?_⟩
    have h1 : ix[e]? = some a := by rw [List.getElem?_eq_getElem he, hea]
    rcases h.ent e a h1 with h2 | h2
    · rw [h1, h2]
    · omega
theorem Ok.slot (h : Ok cap ad vs ix) (x : Int) : ∃ d, d < ix.length ∧ (home ix.length x + d) % ix.length = slot ix x ∧ ix[slot ix x]? = some (-1) ∧ ∀ j, j < d → ix[(home ix.length x + j) % ix.length]? ≠ some (-1) := by
  obtain ⟨e, he, hee⟩ := h.empty
  have hh := home_lt (by omega : 0 < ix.length) x
  obtain ⟨n, hn, hne⟩ := reach hh he
  obtain ⟨d, h1, h2, h3⟩ := least (P := fun k => ix[(home ix.length x + k) % ix.length]? = some (-1)) n (by rw [hne]; exact hee)
  have hs := go_spec ix d (home ix.length x) ix.length hh (by omega) h3 h2
  exact ⟨d, by omega, hs.symm, by unfold RlP.slot; rw [hs]; exact h2, h3⟩
theorem Ok.add (h : Ok cap ad vs ix) {x v : Int} (h0 : 0 ≤ x) (hx : ¬ x ∈ ad) (hc : ad.length < cap) : Ok cap (ad ++ [x]) (vs ++ [v]) (ix.set (RlP.slot ix x) ad.length) := by
  obtain ⟨d, hd, hds, hse, hdj⟩ := h.slot x
  have hsl : RlP.slot ix x < ix.length := (List.getElem?_eq_some_iff.1 hse).1
  have hat : ix[RlP.slot ix x] = -1 := (List.getElem?_eq_some_iff.1 hse).2
  have hset : ∀ (p : Nat), (ix.set (RlP.slot ix x) ad.length)[p]? = if p = RlP.slot ix x then some (ad.length : Int) else ix[p]? := by
    intro p
    rw [List.getElem?_set]
    by_cases e : RlP.slot ix x = p
    · rw [if_pos e, if_pos e.symm, if_pos (by omega)]
    · rw [if_neg e, if_neg (fun c => e c.symm)]
  have keep : ∀ p : Nat, ix[p]? ≠ some (-1) → (ix.set (RlP.slot ix x) ad.length)[p]? ≠ some (-1) := by
    intro p hp
    rw [hset]
    split
    · intro e
      injection e with e
      omega
    · exact hp
  refine ⟨by rw [List.length_append]; simp; omega, by simp [h.lv], by rw [List.length_set]; exact h.room, by rw [List.length_set]; exact h.sz, ?_, ?_, ?_, ?_, ?_, ?_, ?_⟩
  · rw [List.nodup_append]
    exact ⟨h.nd, by simp, fun a ha b hb e => by
      rw [List.mem_singleton] at hb
      exact hx (hb ▸ e ▸ ha)⟩
  · intro y hy
    rcases List.mem_append.1 hy with hy | hy
    · exact h.nn y hy
    · rw [List.mem_singleton] at hy
      omega
  · rw [List.countP_set hsl, hat, h.cnt, List.length_append]
    simp
  · intro p i hi
    rw [hset] at hi
    rw [List.length_append]
    split at hi
    · injection hi with hi
      right
      simp
      omega
    · rcases h.ent p i hi with h1 | h1
      · exact .inl h1
      · right
        simp
        omega
  · intro i hi
    rw [List.length_append] at hi
    simp at hi
    by_cases e : i < ad.length
    · obtain ⟨p, hp⟩ := h.hasp i e
      refine ⟨p, ?_⟩
      rw [hset, if_neg (fun c => by rw [c, hse] at hp; injection hp with hp; omega)]
      exact hp
    · exact ⟨RlP.slot ix x, by rw [hset, if_pos rfl]; congr 1; omega⟩
  · intro p q i h1 h2 h3
    rw [hset] at h1 h2
    split at h1 <;> split at h2
    · omega
    · injection h1 with h1
      rcases h.ent q i h2 with h4 | h4 <;> omega
    · injection h2 with h2
      rcases h.ent p i h1 with h4 | h4 <;> omega
    · exact h.uniq p q i h1 h2 h3
  · intro p i y h1 h2
    rw [List.length_set]
    rw [hset] at h1
    split at h1
    · injection h1 with h1
      have : i = ad.length := by omega
      subst this
      rw [List.getElem?_append_right (Nat.le_refl _), Nat.sub_self] at h2
      simp at h2
      subst h2
      rename_i hp
      exact ⟨d, hd, hds.trans hp.symm, fun j hj => keep _ (hdj j hj)⟩
    · have hi : i < ad.length := by
        rcases h.ent p i h1 with h4 | h4 <;> omega
      rw [List.getElem?_append_left hi] at h2
      obtain ⟨d2, g1, g2, g3⟩ := h.path p i y h1 h2
      exact ⟨d2, g1, g2, fun j hj => keep _ (g3 j hj)⟩
theorem Ok.turn (h : Ok cap ad vs ix) (i : Nat) (v : Int) : Ok cap ad (vs.set i v) ix :=
  ⟨h.few, by rw [List.length_set]; exact h.lv, h.room, h.sz, h.nd, h.nn, h.cnt, h.ent, h.hasp, h.uniq, h.path⟩
/-- A search for x ends at place p. -/
def Stop (ad ix : List Int) (x : Int) (p : Nat) : Prop := ix[p]? = some (-1) ∨ ∃ i : Nat, ix[p]? = some (i : Int) ∧ ad[i]? = some x
theorem Ok.search (h : Ok cap ad vs ix) (x : Int) : ∃ d, d < ix.length ∧ Stop ad ix x ((home ix.length x + d) % ix.length) ∧ ∀ j, j < d → ¬ Stop ad ix x ((home ix.length x + j) % ix.length) := by
  obtain ⟨e, he, hee⟩ := h.empty
  have hh := home_lt (by omega : 0 < ix.length) x
  obtain ⟨n, hn, hne⟩ := reach hh he
  obtain ⟨d, h1, h2, h3⟩ := least (P := fun k => Stop ad ix x ((home ix.length x + k) % ix.length)) n (by rw [hne]; exact .inl hee)
  exact ⟨d, by omega, h2, h3⟩
/-- What a search finds: the address's entry, or its future place. -/
def Hits (ad ix : List Int) (x : Int) (p : Nat) : Prop := p < ix.length ∧ ((∃ i : Nat, ad[i]? = some x ∧ ix[p]? = some (i : Int)) ∨ (¬ x ∈ ad ∧ p = RlP.slot ix x ∧ ix[p]? = some (-1)))
theorem Ok.hits (h : Ok cap ad vs ix) (x : Int) {d : Nat} (hd : d < ix.length) (h1 : Stop ad ix x ((home ix.length x + d) % ix.length)) (h2 : ∀ j, j < d → ¬ Stop ad ix x ((home ix.length x + j) % ix.length)) : Hits ad ix x ((home ix.length x + d) % ix.length) := by
  refine ⟨Nat.mod_lt _ (by omega), ?_⟩
  rcases h1 with h1 | ⟨i, h3, h4⟩
  · right
    have hnot : ¬ x ∈ ad := by
      intro hx
      obtain ⟨i, hi, hie⟩ := List.getElem_of_mem hx
      have hi2 : ad[i]? = some x := by rw [List.getElem?_eq_getElem hi, hie]
      obtain ⟨p, hp⟩ := h.hasp i hi
      obtain ⟨e, he, hep, hej⟩ := h.path p i x hp hi2
      by_cases c : d < e
      · exact hej d c h1
      · by_cases c2 : e < d
        · exact h2 e c2 (.inr ⟨i, by rw [hep]; exact hp, hi2⟩)
        · have : d = e := by omega
          subst this
          rw [hep, hp] at h1
          injection h1 with h1
          omega
    refine ⟨hnot, ?_, h1⟩
    exact (go_spec ix d (home ix.length x) ix.length (home_lt (by omega) x) (by omega) (fun j hj e => h2 j hj (.inl e)) h1).symm
  · exact .inl ⟨i, h4, h3⟩
theorem Ok.hit_some (h : Ok cap ad vs ix) (x : Int) : ∃ p, Hits ad ix x p := by
  obtain ⟨d, h1, h2, h3⟩ := h.search x
  exact ⟨_, h.hits x h1 h2 h3⟩
theorem Ok.hit_one (h : Ok cap ad vs ix) {x : Int} {p q : Nat} (h1 : Hits ad ix x p) (h2 : Hits ad ix x q) : p = q := by
  rcases h1 with ⟨_, ⟨i, hi, hp⟩ | ⟨hn, hp, _⟩⟩ <;> rcases h2 with ⟨_, ⟨j, hj, hq⟩ | ⟨hm, hq, _⟩⟩
  · obtain ⟨hl, e1⟩ := List.getElem?_eq_some_iff.1 hi
    obtain ⟨hk, e2⟩ := List.getElem?_eq_some_iff.1 hj
    have : i = j := (List.getElem_inj h.nd).1 (e1.trans e2.symm)
    subst this
    exact h.uniq p q i hp hq (by omega)
  · exact absurd (List.mem_of_getElem? hi) hm
  · exact absurd (List.mem_of_getElem? hj) hn
  · rw [hp, hq]
theorem nostop (h : Ok cap ad vs ix) {x : Int} {p : Nat} (hp : p < ix.length) (hn : ¬ Stop ad ix x p) : ∃ (i : Nat) (y : Int), ix[p]? = some (i : Int) ∧ ad[i]? = some y ∧ y ≠ x := by
  have h1 : ix[p]? = some ix[p] := List.getElem?_eq_getElem hp
  rcases h.ent p _ h1 with h2 | ⟨h2, h3⟩
  · exact absurd (.inl (by rw [h1, h2])) hn
  · have h4 : ix[p].toNat < ad.length := by omega
    have h5 : ix[p]? = some ((ix[p].toNat : Nat) : Int) := by rw [h1]; congr 1; omega
    refine ⟨ix[p].toNat, ad[ix[p].toNat], h5, List.getElem?_eq_getElem h4, fun e => hn (.inr ⟨_, h5, by rw [List.getElem?_eq_getElem h4, e]⟩)⟩
end
end Go.Proofs.Ytelpimhgodkmlaa.RlP
