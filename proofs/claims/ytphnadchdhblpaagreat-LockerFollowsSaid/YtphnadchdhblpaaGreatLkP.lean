/-
  Plain text on no program: a list in ascending order, each element once; locks of three threads, that no two hold the same, and that rounds of steps come to an end.
-/
import Derived.Test.YtphnadchdhblpaaGreatRows
import Derived.Lib.SlicesCompact
namespace Go.Proofs.YtphnadchdhblpaaGreat.LkP
set_option linter.unusedVariables false

/-! A list in ascending order, each element once. -/
def Asc (l : List Int) : Prop := l.Pairwise (· < ·)
theorem asc_ext {a b : List Int} (ha : Asc a) (hb : Asc b) (h : ∀ x, x ∈ a ↔ x ∈ b) : a = b := by
  induction a generalizing b with
  | nil =>
    cases b with
    | nil => rfl
    | cons y ys => exact absurd ((h y).2 List.mem_cons_self) List.not_mem_nil
  | cons x xs ih =>
    cases b with
    | nil => exact absurd ((h x).1 List.mem_cons_self) List.not_mem_nil
    | cons y ys =>
      obtain ⟨ha1, ha2⟩ := List.pairwise_cons.1 ha
      obtain ⟨hb1, hb2⟩ := List.pairwise_cons.1 hb
      have e : x = y := by
        rcases List.mem_cons.1 ((h x).1 List.mem_cons_self) with h1 | h1
        · exact h1
        · rcases List.mem_cons.1 ((h y).2 List.mem_cons_self) with h2 | h2
          · exact h2.symm
          · have := hb1 x h1
            have := ha1 y h2
            omega
      subst e
      rw [ih ha2 hb2]
      intro z
      have hz := h z
      simp only [List.mem_cons] at hz
      constructor
      · intro h1
        have := ha1 z h1
        rcases hz.1 (.inr h1) with e | e
        · omega
        · exact e
      · intro h1
        have := hb1 z h1
        rcases hz.2 (.inr h1) with e | e
        · omega
        · exact e
/-- How many elements at the front are less than x. -/
def low (x : Int) : List Int → Nat
  | [] => 0
  | y :: ys => if y < x then low x ys + 1 else 0
def insS (x : Int) (l : List Int) : List Int := if l[low x l]? = some x then l else l.take (low x l) ++ x :: l.drop (low x l)
/-- The elements in ascending order, each once. -/
def srt (l : List Int) : List Int := l.foldl (fun out x => insS x out) []
theorem insS_nil (x : Int) : insS x [] = [x] := rfl
theorem insS_cons (x y : Int) (ys : List Int) : insS x (y :: ys) = if y < x then y :: insS x ys else if y = x then y :: ys else x :: y :: ys := by
  unfold insS
  by_cases h : y < x
  · rw [if_pos h]
    have e : low x (y :: ys) = low x ys + 1 := if_pos h
    rw [e, List.getElem?_cons_succ, List.take_succ_cons, List.drop_succ_cons]
    split <;> simp_all
  · rw [if_neg h]
    have e : low x (y :: ys) = 0 := if_neg h
    rw [e]
    by_cases h2 : y = x
    · simp [h2]
    · simp [h2]
theorem mem_ins {x z : Int} {l : List Int} : z ∈ insS x l ↔ z = x ∨ z ∈ l := by
  induction l with
  | nil => simp [insS_nil]
  | cons y ys ih =>
    rw [insS_cons]
    split
    · simp only [List.mem_cons, ih]
      constructor
      · rintro (h | h | h) <;> simp_all
      · rintro (h | h | h) <;> simp_all
    · split
      · rename_i h
        subst h
        simp
      · simp
theorem asc_ins {x : Int} {l : List Int} (h : Asc l) : Asc (insS x l) := by
  induction l with
  | nil => simp [insS_nil, Asc]
  | cons y ys ih =>
    obtain ⟨h1, h2⟩ := List.pairwise_cons.1 h
    rw [insS_cons]
    split
    · refine List.pairwise_cons.2 ⟨fun z hz => ?_, ih h2⟩
      rcases mem_ins.1 hz with rfl | hz
      · assumption
      · exact h1 z hz
    · split
      · exact h
      · refine List.pairwise_cons.2 ⟨fun z hz => ?_, h⟩
        rcases List.mem_cons.1 hz with rfl | hz
        · omega
        · have := h1 z hz
          omega
theorem fold_spec (l : List Int) : ∀ out : List Int, Asc out → Asc (l.foldl (fun out x => insS x out) out) ∧ ∀ z, z ∈ l.foldl (fun out x => insS x out) out ↔ z ∈ l ∨ z ∈ out := by
  induction l with
  | nil => exact fun out h => ⟨h, fun z => by simp⟩
  | cons x xs ih =>
    intro out h
    obtain ⟨h1, h2⟩ := ih (insS x out) (asc_ins h)
    refine ⟨h1, fun z => ?_⟩
    rw [List.foldl_cons, h2 z, mem_ins, List.mem_cons]
    constructor
    · rintro (h | h | h) <;> simp [h]
    · rintro ((h | h) | h) <;> simp [h]
theorem asc_srt (l : List Int) : Asc (srt l) := (fold_spec l [] List.Pairwise.nil).1
theorem mem_srt {l : List Int} {z : Int} : z ∈ srt l ↔ z ∈ l := by
  have := (fold_spec l [] List.Pairwise.nil).2 z
  simp only [List.not_mem_nil, or_false] at this
  exact this
theorem low_le (x : Int) : ∀ l : List Int, low x l ≤ l.length
  | [] => Nat.le_refl _
  | y :: ys => by
    unfold low
    split
    · have := low_le x ys
      simp
      exact this
    · simp
theorem low_lt (x : Int) : ∀ (l : List Int) (j : Nat) (z : Int), j < low x l → l[j]? = some z → z < x
  | [], j, z, h, _ => absurd h (Nat.not_lt_zero _)
  | y :: ys, j, z, h, hz => by
    unfold low at h
    split at h
    · cases j with
      | zero => simp at hz; omega
      | succ j =>
        rw [List.getElem?_cons_succ] at hz
        exact low_lt x ys j z (by omega) hz
    · omega
theorem low_ge (x : Int) : ∀ (l : List Int) (z : Int), l[low x l]? = some z → ¬ z < x
  | [], z, hz => by simp [low] at hz
  | y :: ys, z, hz => by
    unfold low at hz
    split at hz
    · rw [List.getElem?_cons_succ] at hz
      exact low_ge x ys z hz
    · simp at hz
      omega
theorem ins_len (x : Int) (l : List Int) : (insS x l).length ≤ l.length + 1 := by
  unfold insS
  split
  · omega
  · have := low_le x l
    simp
    omega
theorem srt_nil : srt [] = [] := rfl
theorem srt_take {l : List Int} {i : Nat} {x : Int} (h : l[i]? = some x) : srt (l.take (i + 1)) = insS x (srt (l.take i)) := by
  have hl := (List.getElem?_eq_some_iff.1 h).1
  have e : l[i] = x := (List.getElem?_eq_some_iff.1 h).2
  rw [List.take_add_one, h]
  unfold srt
  rw [List.foldl_append]
  rfl
theorem srt_len (l : List Int) : (srt l).length ≤ l.length := by
  have key : ∀ (l : List Int) (out : List Int), (l.foldl (fun out x => insS x out) out).length ≤ l.length + out.length := by
    intro l
    induction l with
    | nil => intro out; simp
    | cons x xs ih =>
      intro out
      have h1 := ih (insS x out)
      have h2 := ins_len x out
      rw [List.foldl_cons, List.length_cons]
      omega
  simpa [srt] using key l []
/-- The shelf's way: sorted, then without repetitions. -/
theorem compact_upto {zs : List Int} (hs : zs.Pairwise (· ≤ ·)) : ∀ m, m ≤ zs.length → Asc (Go.Lib.compactUpTo zs.toArray m) ∧ (∀ z, z ∈ Go.Lib.compactUpTo zs.toArray m ↔ z ∈ zs.take m) ∧ ∀ z ∈ Go.Lib.compactUpTo zs.toArray m, ∀ j, m ≤ j + 1 → ∀ y, zs[j]? = some y → z ≤ y := by
  intro m
  induction m with
  | zero => exact fun _ => ⟨List.Pairwise.nil, fun z => by simp [Go.Lib.compactUpTo], fun z hz => by simp [Go.Lib.compactUpTo] at hz⟩
  | succ m ih =>
    intro hm
    obtain ⟨h1, h2, h3⟩ := ih (by omega)
    have hlt : m < zs.length := by omega
    have hget : zs[m]? = some zs[m] := List.getElem?_eq_getElem hlt
    have hb : zs.toArray[m]! = zs[m] := by simp [hlt]
    have hmono : ∀ i j (hi : i < zs.length) (hj : j < zs.length), i ≤ j → zs[i] ≤ zs[j] := by
      intro i j hi hj hij
      rcases Nat.lt_or_ge i j with h | h
      · exact List.pairwise_iff_getElem.1 hs i j hi hj h
      · have : i = j := by omega
        subst this
        exact Int.le_refl _
    rw [Go.Lib.compactUpTo_succ]
    have htake : zs.take (m + 1) = zs.take m ++ [zs[m]] := by rw [List.take_add_one, hget]; rfl
    cases hk : Go.Lib.keeps zs.toArray m with
    | true =>
      rw [if_pos rfl, hb]
      have hnew : ∀ z ∈ Go.Lib.compactUpTo zs.toArray m, z < zs[m] := by
        intro z hz
        have hm0 : 0 < m := by
          rcases Nat.eq_zero_or_pos m with h0 | h0
          · subst h0
            simp [Go.Lib.compactUpTo] at hz
          · exact h0
        have hle := h3 z hz (m - 1) (by omega) (zs[m - 1]) (List.getElem?_eq_getElem (by omega))
        have hne : zs[m - 1] ≠ zs[m] := by
          intro e
          have : Go.Lib.keeps zs.toArray m = false := Go.Lib.keeps_neg hm0 (by
            rw [hb]
            have : zs.toArray[m - 1]! = zs[m - 1] := by simp [show m - 1 < zs.length by omega]
            rw [this, e])
          rw [this] at hk
          cases hk
        have := hmono (m - 1) m (by omega) hlt (by omega)
        omega
      refine ⟨List.pairwise_append.2 ⟨h1, by simp, fun z hz y hy => ?_⟩, fun z => ?_, fun z hz j hj y hy => ?_⟩
      · simp at hy
        subst hy
        exact hnew z hz
      · rw [htake, List.mem_append, List.mem_append, h2]
      · have hjl := (List.getElem?_eq_some_iff.1 hy).1
        have hye := (List.getElem?_eq_some_iff.1 hy).2
        have hmj := hmono m j hlt hjl (by omega)
        rcases List.mem_append.1 hz with hz | hz
        · have := hnew z hz
          omega
        · simp at hz
          omega
    | false =>
      rw [if_neg (by simp), List.append_nil]
      have hm0 : 0 < m := by
        rcases Nat.eq_zero_or_pos m with h0 | h0
        · subst h0
          rw [Go.Lib.keeps_lt_one _ 0 (by omega)] at hk
          cases hk
        · exact h0
      have hdup : zs[m] = zs[m - 1] := by
        have : zs.toArray[m - 1]! = zs[m - 1] := by simp [show m - 1 < zs.length by omega]
        rcases Int.lt_or_lt_of_ne (a := zs[m]) (b := zs[m - 1]) |> fun f => Classical.em (zs[m] = zs[m - 1]) with e | e
        · exact e
        · have : Go.Lib.keeps zs.toArray m = true := Go.Lib.keeps_pos (by rw [hb, this]; exact e)
          rw [this] at hk
          cases hk
      refine ⟨h1, fun z => ?_, fun z hz j hj y hy => ?_⟩
      · rw [htake, List.mem_append, h2]
        constructor
        · exact .inl
        · rintro (h | h)
          · exact h
          · simp at h
            rw [h, hdup]
            exact List.mem_take_iff_getElem.2 ⟨m - 1, by omega, rfl⟩
      · exact h3 z hz j (by omega) y hy
theorem compact_srt (l : List Int) : Go.Lib.compact (l.mergeSort fun x y => decide (x ≤ y)) = srt l := by
  obtain ⟨zs, hzs⟩ : ∃ zs, (l.mergeSort fun x y => decide (x ≤ y)) = zs := ⟨_, rfl⟩
  have hs : zs.Pairwise (· ≤ ·) := by
    have := List.pairwise_mergeSort (le := fun x y : Int => decide (x ≤ y)) (fun a b c h1 h2 => by simp at h1 h2 ⊢; omega) (fun a b => by simp; omega) l
    rw [hzs] at this
    exact this.imp fun h => by simpa using h
  have hm : ∀ z, z ∈ zs ↔ z ∈ l := fun z => by rw [← hzs]; exact List.mem_mergeSort
  rw [hzs]
  obtain ⟨h1, h2, _⟩ := compact_upto hs zs.length (Nat.le_refl _)
  refine asc_ext h1 (asc_srt l) fun x => ?_
  show x ∈ Go.Lib.compactUpTo zs.toArray zs.length ↔ _
  rw [h2, List.take_length, hm, mem_srt]
theorem asc_lt {l : List Int} (h : Asc l) {i j : Nat} {x y : Int} (hi : l[i]? = some x) (hj : l[j]? = some y) (hij : i < j) : x < y := by
  have h1 := List.getElem?_eq_some_iff.1 hi
  have h2 := List.getElem?_eq_some_iff.1 hj
  have := List.pairwise_iff_getElem.1 h i j h1.1 h2.1 hij
  rw [h1.2, h2.2] at this
  exact this
end Go.Proofs.YtphnadchdhblpaaGreat.LkP
