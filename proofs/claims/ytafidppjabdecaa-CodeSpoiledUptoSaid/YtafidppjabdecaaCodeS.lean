/-
  Texts on no program: numbers, lists and scripts as bytes; what is written is read, and what is read is what is written.
-/
import Derived.WalkKit
namespace Go.Proofs.Ytafidppjabdecaa.CodeS
open Go.RowKit
set_option linter.unusedVariables false

/-! ### Numbers. -/
/-- The bytes of an unsigned number. -/
def uB (v : Int) : List Int := if h : 128 ≤ v then (v % 128 + 128) :: uB (v / 128) else [v]
termination_by v.toNat
decreasing_by omega
/-- The unsigned number as which a signed one is written. -/
def sF (n : Int) : Int := if n < 0 then 2 * (-n - 1) + 1 else 2 * n
def sU (v : Int) : Int := if v % 2 = 1 then -(v / 2) - 1 else v / 2
def sB (n : Int) : List Int := uB (sF n)
theorem uB_small {v : Int} (h : v < 128) : uB v = [v] := by
  rw [uB, dif_neg (by omega)]
theorem uB_big {v : Int} (h : 128 ≤ v) : uB v = (v % 128 + 128) :: uB (v / 128) := by
  rw [uB, dif_pos h]
def InI (n : Int) : Prop := -9223372036854775808 ≤ n ∧ n ≤ 9223372036854775807
def InU (n : Int) : Prop := 0 ≤ n ∧ n ≤ 18446744073709551615
def InB (n : Int) : Prop := 0 ≤ n ∧ n ≤ 255
theorem sF_in {n : Int} (h : InI n) : InU (sF n) := by unfold InI at h; unfold InU sF; split <;> omega
theorem sU_in {n : Int} (h : InU n) : InI (sU n) := by unfold InU at h; unfold InI sU; split <;> omega
theorem sU_sF {n : Int} (h : InI n) : sU (sF n) = n := by
  unfold sF
  split
  · unfold sU; rw [if_pos (by omega)]; omega
  · unfold sU; rw [if_neg (by omega)]; omega
theorem sF_sU {n : Int} (h : InU n) : sF (sU n) = n := by
  unfold InU at h
  unfold sU
  split
  · unfold sF; rw [if_pos (by omega)]; omega
  · unfold sF; rw [if_neg (by omega)]; omega
theorem uB_len (k : Nat) : ∀ {v : Int}, v < 128 ^ (k + 1) → (uB v).length ≤ k + 1 := by
  induction k with
  | zero => intro v h; rw [uB_small (by simpa using h)]; simp
  | succ k ih =>
    intro v h
    by_cases hv : v < 128
    · rw [uB_small hv]; simp
    · rw [uB_big (by omega)]
      have : v / 128 < 128 ^ (k + 1) := Int.ediv_lt_of_lt_mul (by decide) (by rw [← Int.pow_succ]; exact h)
      have := ih this
      simp only [List.length_cons]
      omega
theorem lt_ten {v : Int} (h : InU v) : v < 128 ^ (9 + 1) := by
  have e : (128 : Int) ^ (9 + 1) = 1180591620717411303424 := by decide
  rw [e]
  unfold InU at h
  omega
theorem uB_ten {v : Int} (h : InU v) : (uB v).length ≤ 10 := uB_len 9 (lt_ten h)
theorem uB_pos (v : Int) : 0 < (uB v).length := by
  rw [uB]; split <;> simp
theorem uB_byte (k : Nat) : ∀ {v : Int}, 0 ≤ v → v < 128 ^ (k + 1) → ∀ b ∈ uB v, InB b := by
  induction k with
  | zero => intro v h0 h b hb; have h' : v < 128 := by simpa using h
            rw [uB_small h'] at hb; simp at hb; subst hb; unfold InB; omega
  | succ k ih =>
    intro v h0 h b hb
    by_cases hv : v < 128
    · rw [uB_small hv] at hb; simp at hb; subst hb; unfold InB; omega
    · rw [uB_big (by omega)] at hb
      have : v / 128 < 128 ^ (k + 1) := Int.ediv_lt_of_lt_mul (by decide) (by rw [← Int.pow_succ]; exact h)
      rcases List.mem_cons.1 hb with rfl | hb
      · unfold InB; omega
      · exact ih (by omega) this b hb
theorem uB_bytes {v : Int} (h : InU v) : ∀ b ∈ uB v, InB b := uB_byte 9 h.1 (lt_ten h)

/-! ### Scripts. -/
structure Scr where
  cfg : List Int
  strong : Bool
  init : List Int
  progs : List (List (List Int))
  picks : List Int
def insB (i : List Int) : List Int := i.flatMap sB
def listB {α : Type} (g : α → List Int) (l : List α) : List Int := uB l.length ++ l.flatMap g
def progB (p : List (List Int)) : List Int := listB insB p
def boolB (b : Bool) : Int := if b then 1 else 0
def headB (s : Scr) : List Int := [83, 84, 88, 49] ++ s.cfg.flatMap sB ++ [boolB s.strong]
def bytesOf (s : Scr) : List Int := headB s ++ listB uB s.init ++ listB progB s.progs ++ listB sB s.picks
def InsOk (i : List Int) : Prop := i.length = 5 ∧ ∀ x ∈ i, InI x
def ListOk {α : Type} (ok : α → Prop) (l : List α) : Prop := l.length ≤ 18446744073709551615 ∧ ∀ x ∈ l, ok x
structure Scr.Ok (s : Scr) : Prop where
  cfg : s.cfg.length = 12 ∧ ∀ x ∈ s.cfg, InI x
  init : ListOk InU s.init
  progs : ListOk (ListOk InsOk) s.progs
  picks : ListOk InI s.picks

/-! ### Reading. -/
def okB (k : Nat) (b : Int) : Bool := decide (k ≤ 8) || (decide (k = 9) && decide (b % 128 ≤ 1)) || decide (b % 128 = 0)
def rdU : Nat → Int → List Int → Option (Int × List Int)
  | _, _, [] => none
  | k, acc, b :: r =>
    if okB k b then
      if b < 128 then if b = 0 ∧ k ≠ 0 then none else some (acc + b % 128 * 128 ^ k, r)
      else rdU (k + 1) (acc + b % 128 * 128 ^ k) r
    else none
def rU (l : List Int) : Option (Int × List Int) := rdU 0 0 l
def rS (l : List Int) : Option (Int × List Int) := (rU l).map fun x => (sU x.1, x.2)
def rN {α : Type} (f : List Int → Option (α × List Int)) : Nat → List Int → Option (List α × List Int)
  | 0, l => some ([], l)
  | n + 1, l => (f l).bind fun x => (rN f n x.2).map fun y => (x.1 :: y.1, y.2)
def rL {α : Type} (f : List Int → Option (α × List Int)) (l : List Int) : Option (List α × List Int) := (rU l).bind fun x => rN f x.1.toNat x.2
def rI (l : List Int) : Option (List Int × List Int) := rN rS 5 l
def rP (l : List Int) : Option (List (List Int) × List Int) := rL rI l
def rF : List Int → Option (Bool × List Int)
  | [] => none
  | b :: r => if b ≤ 1 then some (decide (b = 1), r) else none
def rM : List Int → Option (List Int)
  | a :: b :: c :: d :: r => if a = 83 ∧ b = 84 ∧ c = 88 ∧ d = 49 then some r else none
  | _ => none
def decP (l : List Int) : Option Scr :=
  (rM l).bind fun r => (rN rS 12 r).bind fun c => (rF c.2).bind fun f => (rL rU f.2).bind fun i => (rL rP i.2).bind fun p => (rL rS p.2).bind fun k =>
    if k.2 = [] then some ⟨c.1, f.1, i.1, p.1, k.1⟩ else none

/-- The reader f reads just what g writes of the values that are ok. -/
structure Exact {α : Type} (f : List Int → Option (α × List Int)) (g : α → List Int) (ok : α → Prop) : Prop where
  to : ∀ x r, ok x → f (g x ++ r) = some (x, r)
  of : ∀ l x r, (∀ b ∈ l, InB b) → f l = some (x, r) → l = g x ++ r ∧ ok x

theorem pow_num : (128 : Int) ^ 0 = 1 ∧ (128 : Int) ^ 1 = 128 ∧ (128 : Int) ^ 2 = 16384 ∧ (128 : Int) ^ 3 = 2097152 ∧ (128 : Int) ^ 4 = 268435456 ∧ (128 : Int) ^ 5 = 34359738368 ∧ (128 : Int) ^ 6 = 4398046511104 ∧
    (128 : Int) ^ 7 = 562949953421312 ∧ (128 : Int) ^ 8 = 72057594037927936 ∧ (128 : Int) ^ 9 = 9223372036854775808 ∧ (128 : Int) ^ 10 = 1180591620717411303424 := by decide
theorem pow_ten {k : Nat} (h : 10 ≤ k) : (1180591620717411303424 : Int) ≤ 128 ^ k := by
  obtain ⟨j, rfl⟩ : ∃ j, k = 10 + j := ⟨k - 10, by omega⟩
  rw [Int.pow_add, pow_num.2.2.2.2.2.2.2.2.2.2]
  have : (1 : Int) ≤ 128 ^ j := by
    have : 0 < (128 : Int) ^ j := Int.pow_pos (by decide)
    omega
  omega
theorem pow_pos (k : Nat) : 0 < (128 : Int) ^ k := Int.pow_pos (by decide)
/-- What is more than 64 bits. -/
theorem mul_ten {v : Int} {k : Nat} (hv : 1 ≤ v) (h : 10 ≤ k) : 18446744073709551616 ≤ v * 128 ^ k := by
  have h1 := pow_ten h
  have h2 := Int.mul_le_mul_of_nonneg_right hv (Int.le_of_lt (pow_pos k))
  rw [Int.one_mul] at h2
  omega
theorem rdU_to (m : Nat) : ∀ (k : Nat) (acc v : Int) (r : List Int), v.toNat ≤ m → 0 ≤ v → v * 128 ^ k < 18446744073709551616 → (v ≠ 0 ∨ k = 0) → rdU k acc (uB v ++ r) = some (acc + v * 128 ^ k, r) := by
  induction m with
  | zero =>
    intro k acc v r hm h0 hlt hne
    obtain rfl : v = 0 := by omega
    obtain rfl : k = 0 := by omega
    rw [uB_small (by omega)]
    simp [rdU, okB]
  | succ m ih =>
    intro k acc v r hm h0 hlt hne
    by_cases hv0 : v = 0
    · subst hv0
      obtain rfl : k = 0 := by omega
      rw [uB_small (by omega)]
      simp [rdU, okB]
    have hk : k ≤ 9 := by
      rcases Nat.lt_or_ge 9 k with h | h
      · have := mul_ten (v := v) (k := k) (by omega) h
        omega
      · exact h
    by_cases hv : v < 128
    · rw [uB_small hv]
      have ho : okB k v = true := by
        unfold okB
        by_cases h8 : k ≤ 8
        · simp [h8]
        · obtain rfl : k = 9 := by omega
          have := pow_num.2.2.2.2.2.2.2.2.2.1
          simp
          left
          omega
      simp only [List.cons_append, List.nil_append, rdU, ho, if_true]
      rw [if_pos hv, if_neg (by omega), Int.emod_eq_of_lt h0 hv]
    · rw [uB_big (by omega)]
      have h8 : k ≤ 8 := by
        rcases Nat.lt_or_ge 8 k with h | h
        · obtain rfl : k = 9 := by omega
          have := pow_num.2.2.2.2.2.2.2.2.2.1
          omega
        · exact h
      have ho : okB k (v % 128 + 128) = true := by unfold okB; simp [h8]
      simp only [List.cons_append, rdU, ho, if_true]
      rw [if_neg (by omega), show (v % 128 + 128) % 128 = v % 128 by omega]
      have e : v = v % 128 + v / 128 * 128 := by omega
      have e2 : v * 128 ^ k = v % 128 * 128 ^ k + v / 128 * 128 ^ (k + 1) := by
        conv => lhs; rw [e]
        rw [Int.add_mul, Int.pow_succ, Int.mul_assoc, Int.mul_comm 128]
      have hp := pow_pos k
      have hn : 0 ≤ v % 128 * 128 ^ k := Int.mul_nonneg (by omega) (Int.le_of_lt hp)
      rw [ih (k + 1) _ (v / 128) r (by omega) (by omega) (by omega) (by omega), e2]
      congr 2
      omega
/-- 2^m divides 2^64. -/
theorem room {k : Nat} (h : k ≤ 8) {v d : Int} (hv : v * 128 ^ (k + 1) < 18446744073709551616) (h0 : 0 ≤ v) (hd : d < 128) (hd0 : 0 ≤ d) : d * 128 ^ k + v * 128 ^ (k + 1) < 18446744073709551616 := by
  have P := pow_num
  have : k = 0 ∨ k = 1 ∨ k = 2 ∨ k = 3 ∨ k = 4 ∨ k = 5 ∨ k = 6 ∨ k = 7 ∨ k = 8 := by omega
  rcases this with rfl | rfl | rfl | rfl | rfl | rfl | rfl | rfl | rfl <;> simp only [P, Nat.reduceAdd] at hv ⊢ <;> omega
theorem rdU_of : ∀ (l : List Int) (k : Nat) (acc x : Int) (r : List Int), (∀ b ∈ l, InB b) → rdU k acc l = some (x, r) →
    ∃ v, l = uB v ++ r ∧ x = acc + v * 128 ^ k ∧ 0 ≤ v ∧ v * 128 ^ k < 18446744073709551616 ∧ (v ≠ 0 ∨ k = 0) := by
  intro l
  induction l with
  | nil => intro k acc x r _ h; simp [rdU] at h
  | cons b t ih =>
    intro k acc x r hb h
    obtain ⟨hb0, hb1⟩ := hb b (by simp)
    have hbt : ∀ b ∈ t, InB b := fun y hy => hb y (by simp [hy])
    simp only [rdU] at h
    split at h
    · rename_i ho
      by_cases hlt : b < 128
      · rw [if_pos hlt] at h
        split at h
        · cases h
        · rename_i hz
          simp only [Option.some.injEq, Prod.mk.injEq] at h
          obtain ⟨rfl, rfl⟩ := h
          have em : b % 128 = b := Int.emod_eq_of_lt hb0 hlt
          refine ⟨b, by rw [uB_small hlt]; rfl, by rw [em], hb0, ?_, by omega⟩
          unfold okB at ho
          rw [em] at ho
          simp only [Bool.or_eq_true, decide_eq_true_eq, Bool.and_eq_true] at ho
          rcases ho with (h8 | ⟨rfl, h9⟩) | h0
          · have := room h8 (v := 0) (d := b) (by omega) (by omega) hlt hb0
            omega
          · have := pow_num.2.2.2.2.2.2.2.2.2.1
            omega
          · rw [h0]; omega
      · rw [if_neg hlt] at h
        obtain ⟨v, rfl, rfl, hv0, hv1, hv2⟩ := ih (k + 1) _ _ _ hbt h
        have hv : v ≠ 0 := by omega
        have h8 : k ≤ 8 := by
          rcases Nat.lt_or_ge 8 k with h | h
          · have := mul_ten (v := v) (k := k + 1) (by omega) (by omega)
            omega
          · exact h
        have em : b % 128 = b - 128 := by omega
        have e : (b - 128 + v * 128) * 128 ^ k = (b - 128) * 128 ^ k + v * 128 ^ (k + 1) := by
          rw [Int.add_mul, Int.pow_succ, Int.mul_assoc, Int.mul_comm 128]
        refine ⟨b - 128 + v * 128, ?_, ?_, by omega, ?_, by omega⟩
        · rw [uB_big (v := b - 128 + v * 128) (by omega), show (b - 128 + v * 128) % 128 + 128 = b by omega, show (b - 128 + v * 128) / 128 = v by omega]
          rfl
        · rw [e, em]; omega
        · rw [e]
          exact room h8 hv1 hv0 (by omega) (by omega)
    · cases h
theorem exact_u : Exact rU uB InU := by
  refine ⟨fun x r h => ?_, fun l x r hb h => ?_⟩
  · unfold rU
    rw [rdU_to x.toNat 0 0 x r (Nat.le_refl _) h.1 (by have := h.2; simp; omega) (.inr rfl)]
    simp
  · obtain ⟨v, rfl, rfl, h0, h1, _⟩ := rdU_of l 0 0 x r hb h
    simp only [Int.pow_zero, Int.mul_one, Int.zero_add] at h1 ⊢
    exact ⟨by trivial, h0, by omega⟩
theorem exact_s : Exact rS sB InI := by
  refine ⟨fun x r h => ?_, fun l x r hb h => ?_⟩
  · unfold rS sB
    rw [exact_u.to _ _ (sF_in h)]
    simp [sU_sF h]
  · unfold rS at h
    rw [Option.map_eq_some_iff] at h
    obtain ⟨⟨y, r'⟩, h1, h2⟩ := h
    simp only [Prod.mk.injEq] at h2
    obtain ⟨rfl, rfl⟩ := h2
    obtain ⟨e, ho⟩ := exact_u.of _ _ _ hb h1
    exact ⟨by unfold sB; rw [sF_sU ho]; exact e, sU_in ho⟩
section
variable {α : Type} {f : List Int → Option (α × List Int)} {g : α → List Int} {ok : α → Prop}
theorem Exact.many (h : Exact f g ok) : ∀ n, Exact (rN f n) (fun l => l.flatMap g) (fun l => l.length = n ∧ ∀ x ∈ l, ok x) := by
  intro n
  induction n with
  | zero =>
    refine ⟨fun x r hx => ?_, fun l x r hb hx => ?_⟩
    · have := List.eq_nil_of_length_eq_zero hx.1
      subst this
      rfl
    · simp only [rN, Option.some.injEq, Prod.mk.injEq] at hx
      obtain ⟨rfl, rfl⟩ := hx
      exact ⟨rfl, rfl, by simp⟩
  | succ n ih =>
    refine ⟨fun x r hx => ?_, fun l x r hb hx => ?_⟩
    · obtain ⟨hl, hx⟩ := hx
      cases x with
      | nil => simp at hl
      | cons y t =>
        simp only [List.flatMap_cons, List.append_assoc, rN]
        rw [h.to y _ (hx y (by simp)), Option.bind_some, ih.to t r ⟨by simpa using hl, fun z hz => hx z (by simp [hz])⟩]
        rfl
    · simp only [rN, Option.bind_eq_some_iff, Option.map_eq_some_iff, Prod.mk.injEq] at hx
      obtain ⟨⟨y, r1⟩, h1, ⟨t, r2⟩, h2, rfl, rfl⟩ := hx
      obtain ⟨rfl, hy⟩ := h.of _ _ _ hb h1
      obtain ⟨e, hl, ht⟩ := ih.of _ _ _ (fun b hb' => hb b (by simp [hb'])) h2
      simp only at e
      refine ⟨by simp only [List.flatMap_cons, List.append_assoc]; rw [e], by simp [hl], fun z hz => ?_⟩
      rcases List.mem_cons.1 hz with rfl | hz
      · exact hy
      · exact ht z hz
theorem Exact.list (h : Exact f g ok) : Exact (rL f) (listB g) (ListOk ok) := by
  refine ⟨fun x r hx => ?_, fun l x r hb hx => ?_⟩
  · unfold rL listB
    rw [List.append_assoc, exact_u.to _ _ (by have := hx.1; unfold InU; omega), Option.bind_some]
    exact (h.many _).to x r ⟨by simp, hx.2⟩
  · unfold rL at hx
    rw [Option.bind_eq_some_iff] at hx
    obtain ⟨⟨n, r1⟩, h1, h2⟩ := hx
    obtain ⟨rfl, hn⟩ := exact_u.of _ _ _ hb h1
    obtain ⟨e, hl, hx⟩ := (h.many _).of _ _ _ (fun b hb' => hb b (by simp [hb'])) h2
    simp only at e hl
    unfold InU at hn
    refine ⟨?_, by omega, hx⟩
    unfold listB
    rw [List.append_assoc, ← e, show (x.length : Int) = n by omega]
end
theorem exact_i : Exact rI insB InsOk := exact_s.many 5
theorem exact_p : Exact rP progB (ListOk InsOk) := exact_i.list
theorem rF_cons (b : Int) (r : List Int) : rF (b :: r) = if b ≤ 1 then some (decide (b = 1), r) else none := rfl
theorem exact_f : Exact rF (fun b => [boolB b]) (fun _ => True) := by
  refine ⟨fun x r _ => ?_, fun l x r hb h => ?_⟩
  · cases x <;> simp [rF_cons, boolB]
  · cases l with
    | nil => cases h
    | cons b t =>
      have hb0 := hb b (by simp)
      unfold InB at hb0
      rw [rF_cons] at h
      by_cases h1 : b ≤ 1
      · rw [if_pos h1] at h
        simp only [Option.some.injEq, Prod.mk.injEq] at h
        obtain ⟨rfl, rfl⟩ := h
        refine ⟨?_, trivial⟩
        unfold boolB
        by_cases h1 : b = 1
        · simp [h1]
        · simp only [h1, decide_false, Bool.false_eq_true, if_false, List.cons_append, List.nil_append, List.cons.injEq, and_true]
          omega
      · rw [if_neg h1] at h
        cases h
/-- What is written is read. -/
theorem dec_bytes (s : Scr) (h : s.Ok) : decP (bytesOf s) = some s := by
  unfold decP bytesOf headB
  simp only [List.append_assoc]
  have e1 : rM ([83, 84, 88, 49] ++ (s.cfg.flatMap sB ++ ([boolB s.strong] ++ (listB uB s.init ++ (listB progB s.progs ++ listB sB s.picks))))) = some (s.cfg.flatMap sB ++ ([boolB s.strong] ++ (listB uB s.init ++ (listB progB s.progs ++ listB sB s.picks)))) := by simp [rM]
  rw [e1, Option.bind_some, (exact_s.many 12).to _ _ h.cfg, Option.bind_some, exact_f.to s.strong _ trivial, Option.bind_some, exact_u.list.to _ _ h.init, Option.bind_some, exact_p.list.to _ _ h.progs, Option.bind_some]
  have e2 := exact_s.list.to s.picks [] h.picks
  rw [List.append_nil] at e2
  rw [e2]
  simp
/-- What is read is what is written. -/
theorem dec_of {l : List Int} (hb : ∀ b ∈ l, InB b) {s : Scr} (h : decP l = some s) : l = bytesOf s ∧ s.Ok := by
  unfold decP at h
  simp only [Option.bind_eq_some_iff] at h
  obtain ⟨r0, h0, ⟨c, r1⟩, h1, ⟨f, r2⟩, h2, ⟨i, r3⟩, h3, ⟨p, r4⟩, h4, ⟨k, r5⟩, h5, h6⟩ := h
  have e0 : l = [83, 84, 88, 49] ++ r0 := by
    unfold rM at h0
    split at h0
    · split at h0
      · rename_i hh
        obtain ⟨rfl, rfl, rfl, rfl⟩ := hh
        simp only [Option.some.injEq] at h0
        subst h0
        rfl
      · cases h0
    · cases h0
  subst e0
  simp only at h1 h2 h3 h4 h5 h6
  split at h6
  · rename_i hr
    simp only [Option.some.injEq] at h6
    subst h6 hr
    have b0 : ∀ b ∈ r0, InB b := fun b hb' => hb b (by simp [hb'])
    obtain ⟨e1, o1⟩ := (exact_s.many 12).of _ _ _ b0 h1
    have b1 : ∀ b ∈ r1, InB b := fun b hb' => b0 b (by rw [e1]; simp [hb'])
    obtain ⟨e2, _⟩ := exact_f.of _ _ _ b1 h2
    have b2 : ∀ b ∈ r2, InB b := fun b hb' => b1 b (by rw [e2]; simp [hb'])
    obtain ⟨e3, o3⟩ := exact_u.list.of _ _ _ b2 h3
    have b3 : ∀ b ∈ r3, InB b := fun b hb' => b2 b (by rw [e3]; simp [hb'])
    obtain ⟨e4, o4⟩ := exact_p.list.of _ _ _ b3 h4
    have b4 : ∀ b ∈ r4, InB b := fun b hb' => b3 b (by rw [e4]; simp [hb'])
    obtain ⟨e5, o5⟩ := exact_s.list.of _ _ _ b4 h5
    refine ⟨?_, o1, o3, o4, o5⟩
    unfold bytesOf headB
    simp only [List.append_assoc]
    rw [e1, e2, e3, e4, e5, List.append_nil]
  · cases h6
end Go.Proofs.Ytafidppjabdecaa.CodeS
