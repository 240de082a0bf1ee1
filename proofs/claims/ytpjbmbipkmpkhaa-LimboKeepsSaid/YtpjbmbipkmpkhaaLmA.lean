/-
  Texts on no function: the plain state of a drain, what a step makes of it; the lists of blocks that a limbo holds; chains of free blocks under a drain. Layer 18's objects: rows of any values, rows that are read, the boxes of pushes; a limbo, a drain, the reference's.
-/
import Derived.Test.YtpjbmbipkmpkhaaLabN
import Derived.Test.YtpjbmbipkmpkhaaLabX
import Derived.Test.YtpjbmbipkmpkhaaFreP
import Derived.Test.YtpjbmbipkmpkhaaClnA
import Derived.Test.YtpjbmbipkmpkhaaFreA
import Derived.Test.YtpjbmbipkmpkhaaFreB
namespace Go.Proofs.Ytpjbmbipkmpkhaa.LmP
open Go.ChangeShapes Go.WideShapes Go.ChangeAt Go.RowKit
open PlainT BlkW LayS LayA CelS CelM CelN LabD LabX FreP
set_option linter.unusedVariables false

abbrev hq : Cfg := ⟨20, 4, 1, 3, 2, 1, 0, 1, 1, 0, 0, 0, false⟩
theorem hq_valid : Valid hq := by unfold Valid; decide
theorem cl_of {b : Nat} (h : b < 6) : clsV hq b = (cl b : Int) := by
  have : b = 0 ∨ b = 1 ∨ b = 2 ∨ b = 3 ∨ b = 4 ∨ b = 5 := by omega
  rcases this with rfl | rfl | rfl | rfl | rfl | rfl <;> decide
theorem cl_lt (b : Nat) : cl b < 4 := by have := cl_in b; omega
abbrev MX : Int := 18446744073709551615
/-- The head's word with block b on top. -/
def bmp (x : Int) (b : Nat) : Int := (x / 65536 + 1) % 281474976710656 * 65536 + ((b : Int) + 1)
theorem bmp_in {x : Int} {b : Nat} (hb : b < 6) : 0 ≤ bmp x b ∧ bmp x b ≤ MX := by
  unfold bmp MX
  have h1 := Int.emod_nonneg (x / 65536 + 1) (show (281474976710656 : Int) ≠ 0 by decide)
  have h2 := Int.emod_lt_of_pos (x / 65536 + 1) (show (0 : Int) < 281474976710656 by decide)
  omega
/-! A drain: bs are the blocks that are left, st and x the state and the loaded word of the first one's push. -/
def dA (A : Int → List Int) (bs : List Nat) (st : Nat) (x : Int) : Int → List Int :=
  match bs with
  | [] => A
  | b :: _ => if st = 0 then A else if st = 1 then upd A 8 b (x % 65536) else upd A 7 (cl b) (bmp x b)
def dB {α : Type} (bs : List α) (st : Nat) : List α :=
  match bs with
  | [] => []
  | b :: t => if st = 2 then t else b :: t
def dS {α : Type} (bs : List α) (st : Nat) : Nat :=
  match bs with
  | [] => 0
  | _ :: _ => if st = 2 then 0 else st + 1
def dX (A : Int → List Int) (bs : List Nat) (st : Nat) (x : Int) : Int :=
  match bs with
  | [] => 0
  | b :: _ => if st = 0 then (A 7).getD (cl b) 0 else if st = 1 then x else 0
def dC (A : Int → List Int) (bs : List Nat) (st : Nat) (x : Int) : Int × Int × Int × Int × Int × Bool :=
  match bs with
  | [] => (0, 0, 0, 0, 0, false)
  | b :: _ => if st = 0 then (1, 7, cl b, (A 7).getD (cl b) 0, (A 7).getD (cl b) 0, true) else if st = 1 then (2, 8, b, (A 8).getD b 0, x % 65536, true) else (3, 7, cl b, x, bmp x b, true)
theorem dC_ex (A : Int → List Int) (bs : List Nat) (st : Nat) (x : Int) : ∃ k1 k2 k3 k4 k5 d, dC A bs st x = (k1, k2, k3, k4, k5, d) := ⟨_, _, _, _, _, _, rfl⟩
theorem prod6 {a b c d e : Int} {f : Bool} {a' b' c' d' e' : Int} {f' : Bool} (h : (a, b, c, d, e, f) = (a', b', c', d', e', f')) : a = a' ∧ b = b' ∧ c = c' ∧ d = d' ∧ e = e' ∧ f = f' := by
  cases h
  exact ⟨rfl, rfl, rfl, rfl, rfl, rfl⟩
theorem dB_map {α β : Type} (f : α → β) (bs : List α) (st : Nat) : dB (bs.map f) st = (dB bs st).map f := by
  cases bs with
  | nil => rfl
  | cons b t =>
    unfold dB
    simp only [List.map_cons]
    split <;> rfl
theorem dS_map {α β : Type} (f : α → β) (bs : List α) (st : Nat) : dS (bs.map f) st = dS bs st := by
  cases bs <;> rfl
/-- The cells are as six blocks want them. -/
structure Six (A : Int → List Int) : Prop where
  l7 : (A 7).length = 4
  l8 : (A 8).length = 6
  u7 : ∀ j, j < 4 → 0 ≤ (A 7).getD j 0 ∧ (A 7).getD j 0 ≤ MX
  l3 : (A 3).length = 1
  l4 : (A 4).length = 1
  l5 : (A 5).length = 1
theorem Six.up7 {A : Int → List Int} (h : Six A) {c : Nat} {v : Int} (hc : c < 4) (hv : 0 ≤ v ∧ v ≤ MX) : Six (upd A 7 c v) := by
  refine ⟨?_, ?_, fun j hj => ?_, ?_, ?_, ?_⟩
  · show ((upd A 7 c v) 7).length = 4
    rw [show upd A 7 c v 7 = (A 7).set c v from if_pos rfl, List.length_set]
    exact h.l7
  · rw [upd_ne (by decide)]; exact h.l8
  · rw [upd_get (by rw [h.l7]; exact hc)]
    split
    · exact hv
    · exact h.u7 j hj
  · rw [upd_ne (by decide)]; exact h.l3
  · rw [upd_ne (by decide)]; exact h.l4
  · rw [upd_ne (by decide)]; exact h.l5
theorem Six.up8 {A : Int → List Int} (h : Six A) {c : Nat} {v : Int} : Six (upd A 8 c v) := by
  refine ⟨?_, ?_, fun j hj => ?_, ?_, ?_, ?_⟩
  · rw [upd_ne (by decide)]; exact h.l7
  · rw [show upd A 8 c v 8 = (A 8).set c v from if_pos rfl, List.length_set]
    exact h.l8
  · rw [upd_ne (by decide)]; exact h.u7 j hj
  · rw [upd_ne (by decide)]; exact h.l3
  · rw [upd_ne (by decide)]; exact h.l4
  · rw [upd_ne (by decide)]; exact h.l5
structure Dk (A : Int → List Int) (bs : List Nat) (st : Nat) (x : Int) : Prop where
  six : Six A
  lt : ∀ b ∈ bs, b < 6
  st2 : st ≤ 2
  xin : 0 ≤ x ∧ x ≤ MX
  nil : bs = [] → st = 0
  two : ∀ b t, bs = b :: t → 1 ≤ st → (A 7).getD (cl b) 0 = x
theorem Dk.next {A : Int → List Int} {bs : List Nat} {st : Nat} {x : Int} (h : Dk A bs st x) : Dk (dA A bs st x) (dB bs st) (dS bs st) (dX A bs st x) := by
  cases bs with
  | nil =>
    have h0 := h.nil rfl
    exact ⟨h.six, fun b hb => absurd hb List.not_mem_nil, by simp [dS], by simp [dX, MX], fun _ => rfl, fun b t e => by cases e⟩
  | cons b t =>
    have hb := h.lt b (List.mem_cons_self ..)
    have hc := cl_lt b
    have h3 : st = 0 ∨ st = 1 ∨ st = 2 := by have := h.st2; omega
    rcases h3 with rfl | rfl | rfl
    · exact ⟨h.six, h.lt, by simp [dS], h.six.u7 _ hc, fun e => by simp [dB] at e, fun b' t' e _ => by
        simp only [dB] at e
        rw [if_neg (by decide)] at e
        injection e with e1 e2
        subst e1
        rfl⟩
    · refine ⟨h.six.up8, h.lt, by simp [dS], h.xin, fun e => by simp [dB] at e, fun b' t' e _ => ?_⟩
      simp only [dB] at e
      rw [if_neg (by decide)] at e
      injection e with e1 e2
      subst e1
      show ((upd A 8 b (x % 65536)) 7).getD (cl b) 0 = x
      rw [upd_ne (by decide)]
      exact h.two b t rfl (by decide)
    · exact ⟨h.six.up7 hc (bmp_in hb), fun b' hb' => h.lt b' (List.mem_cons_of_mem _ hb'), by simp [dS], by simp [dX, MX], fun _ => rfl, fun b' t' e hs => by simp [dS] at hs⟩
theorem Dk.start {A : Int → List Int} {bs : List Nat} (h : Six A) (hb : ∀ b ∈ bs, b < 6) : Dk A bs 0 0 := ⟨h, hb, by decide, by simp [MX], fun _ => rfl, fun _ _ _ h0 => absurd h0 (by decide)⟩
/-! What a limbo holds: blocks with their versions. -/
abbrev WL : Type := List (Nat × Int)
def bsI (ws : WL) : List Int := ws.map fun p => (p.1 : Int)
def vsI (ws : WL) : List Int := ws.map Prod.snd
/-- The cells of the entries. -/
def fcs (ws : WL) : List Value := ws.flatMap fun p => [.int .i64 p.1, .int .i64 p.2]
theorem fcs_push (ws : WL) (b : Nat) (v : Int) : fcs (ws ++ [(b, v)]) = fcs ws ++ [.int .i64 b, .int .i64 v] := by simp [fcs]
theorem fcs_len (ws : WL) : (fcs ws).length = ws.length * 2 := by
  induction ws with
  | nil => rfl
  | cons p t ih =>
    have : fcs (p :: t) = [.int .i64 p.1, .int .i64 p.2] ++ fcs t := rfl
    rw [this, List.length_append, ih, List.length_cons]
    simp only [List.length_cons, List.length_nil]
    omega
theorem fcs_at {ws : WL} {j : Nat} {p : Nat × Int} (h : ws[j]? = some p) : (fcs ws)[j * 2]? = some (.int .i64 p.1) ∧ (fcs ws)[j * 2 + 1]? = some (.int .i64 p.2) := by
  induction ws generalizing j with
  | nil => simp at h
  | cons q t ih =>
    have e : fcs (q :: t) = .int .i64 q.1 :: .int .i64 q.2 :: fcs t := rfl
    cases j with
    | zero =>
      simp at h
      subst h
      rw [e]
      exact ⟨rfl, rfl⟩
    | succ j =>
      have h1 : t[j]? = some p := by simpa using h
      obtain ⟨h2, h3⟩ := ih h1
      rw [e]
      rw [show (j + 1) * 2 = j * 2 + 1 + 1 by omega]
      exact ⟨by simpa using h2, by simpa using h3⟩
/-- What the numbers that are blocks are with a version. -/
def adds (v : Int) (xs : List Int) : WL := xs.filterMap fun x => if 0 ≤ x ∧ x < 6 then some (x.toNat, v) else none
theorem adds_yes {v x : Int} {xs : List Int} {i : Nat} (h : xs[i]? = some x) (hx : 0 ≤ x ∧ x < 6) : adds v (xs.take (i + 1)) = adds v (xs.take i) ++ [(x.toNat, v)] := by
  rw [List.take_add_one, h]
  simp [adds, hx]
theorem adds_no {v x : Int} {xs : List Int} {i : Nat} (h : xs[i]? = some x) (hx : ¬ (0 ≤ x ∧ x < 6)) : adds v (xs.take (i + 1)) = adds v (xs.take i) := by
  rw [List.take_add_one, h]
  simp [adds, hx]
theorem adds_len (v : Int) (xs : List Int) : (adds v xs).length ≤ xs.length := List.length_filterMap_le _ _
/-- What a drain takes, and what it leaves. -/
def tk (z : Int) (ws : WL) : WL := ws.filter fun p => decide (p.2 ≤ z)
def kp (z : Int) (ws : WL) : WL := ws.filter fun p => !decide (p.2 ≤ z)
theorem tk_yes {z : Int} {ws : WL} {i : Nat} {p : Nat × Int} (h : ws[i]? = some p) (hz : p.2 ≤ z) : tk z (ws.take (i + 1)) = tk z (ws.take i) ++ [p] ∧ kp z (ws.take (i + 1)) = kp z (ws.take i) := by
  rw [List.take_add_one, h]
  simp [tk, kp, hz]
theorem tk_no {z : Int} {ws : WL} {i : Nat} {p : Nat × Int} (h : ws[i]? = some p) (hz : ¬ p.2 ≤ z) : tk z (ws.take (i + 1)) = tk z (ws.take i) ∧ kp z (ws.take (i + 1)) = kp z (ws.take i) ++ [p] := by
  rw [List.take_add_one, h]
  simp [tk, kp, hz]
/-- All blocks are blocks. -/
def WOk (ws : WL) : Prop := ∀ p ∈ ws, p.1 < 6
theorem WOk.at_ {ws : WL} (h : WOk ws) {i : Nat} {p : Nat × Int} (hi : ws[i]? = some p) : p.1 < 6 := h p (List.mem_of_getElem? hi)
theorem wok_adds (v : Int) (xs : List Int) : WOk (adds v xs) := fun p hp => by
  obtain ⟨x, _, hx⟩ := List.mem_filterMap.1 hp
  split at hx
  · injection hx with hx
    subst hx
    show x.toNat < 6
    omega
  · cases hx
theorem WOk.app {a b : WL} (h : WOk a) (k : WOk b) : WOk (a ++ b) := fun p hp => (List.mem_append.1 hp).elim (h p) (k p)
theorem wok_kp {z : Int} {ws : WL} (h : WOk ws) : WOk (kp z ws) := fun p hp => h p (List.mem_filter.1 hp).1
theorem wok_tk {z : Int} {ws : WL} (h : WOk ws) : WOk (tk z ws) := fun p hp => h p (List.mem_filter.1 hp).1
theorem tk_len (z : Int) (ws : WL) : (tk z ws).length ≤ ws.length := List.length_filter_le _ _
theorem kp_len (z : Int) (ws : WL) : (kp z ws).length ≤ ws.length := List.length_filter_le _ _
/-! Chains. -/
def hds (T : Nat → Int) (L : Nat → List Nat) : List Int := [T 0 * 65536 + hd (L 0), T 1 * 65536 + hd (L 1), T 2 * 65536 + hd (L 2), T 3 * 65536 + hd (L 3)]
theorem hds_at {T : Nat → Int} {L : Nat → List Nat} {c : Nat} (h : c ≤ 3) : (hds T L).getD c 0 = T c * 65536 + hd (L c) := by
  rcases four h with rfl | rfl | rfl | rfl <;> rfl
theorem hds_up {T : Nat → Int} {L : Nat → List Nat} {c : Nat} (h : c ≤ 3) (t : Int) (l : List Nat) : (hds T L).set c (t * 65536 + hd l) = hds (up T c t) (up L c l) := by
  rcases four h with rfl | rfl | rfl | rfl <;> rfl
/-- The lists of the classes are L, the heads' tags T. -/
structure Ch (K : Int) (A : Int → List Int) (T : Nat → Int) (L : Nat → List Nat) : Prop where
  a7 : A 7 = hds T L
  l8 : (A 8).length = 6
  lin : ∀ c, c ≤ 3 → Links (A 8) (L c)
  lcl : ∀ c, c ≤ 3 → ∀ b ∈ L c, b < 6
  T0 : ∀ c, c ≤ 3 → 0 ≤ T c ∧ T c ≤ K
  l3 : (A 3).length = 1
  l4 : (A 4).length = 1
  l5 : (A 5).length = 1
  u8 : ∀ j, j < (A 8).length → 0 ≤ (A 8).getD j 0 ∧ (A 8).getD j 0 ≤ MX
theorem Ch.top {K : Int} {A : Int → List Int} {T : Nat → Int} {L : Nat → List Nat} (h : Ch K A T L) {c : Nat} (hc : c ≤ 3) : 0 ≤ hd (L c) ∧ hd (L c) ≤ 6 := hd_in (h.lcl c hc)
theorem Ch.six {K : Int} {A : Int → List Int} {T : Nat → Int} {L : Nat → List Nat} (h : Ch K A T L) (hK : K ≤ 1000000) : Six A := by
  refine ⟨by rw [h.a7]; rfl, h.l8, fun j hj => ?_, h.l3, h.l4, h.l5⟩
  rw [h.a7, hds_at (by omega)]
  have h1 := h.T0 j (by omega)
  have h2 := h.top (c := j) (by omega)
  unfold MX
  omega
theorem Ch.more {K K' : Int} {A : Int → List Int} {T : Nat → Int} {L : Nat → List Nat} (h : Ch K A T L) (hk : K ≤ K') : Ch K' A T L := ⟨h.a7, h.l8, h.lin, h.lcl, fun c hc => ⟨(h.T0 c hc).1, by have := (h.T0 c hc).2; omega⟩, h.l3, h.l4, h.l5, h.u8⟩
/-- A push of b is begun, or has not begun. -/
structure Pd (K : Int) (A : Int → List Int) (T : Nat → Int) (L : Nat → List Nat) (bs : List Nat) (st : Nat) (x : Int) : Prop where
  ch : Ch K A T L
  dk : Dk A bs st x
  out : ∀ b ∈ bs, ∀ c, c ≤ 3 → b ∉ L c
  nd : bs.Nodup
  lnk : ∀ b t, bs = b :: t → st = 2 → (A 8).getD b 0 = x % 65536
/-- The lists behind a step; behind all pushes. -/
def dL (L : Nat → List Nat) (bs : List Nat) (st : Nat) : Nat → List Nat :=
  match bs with
  | [] => L
  | b :: _ => if st = 2 then up L (cl b) (b :: L (cl b)) else L
def pend (L : Nat → List Nat) : List Nat → Nat → List Nat
  | [] => L
  | b :: t => pend (up L (cl b) (b :: L (cl b))) t
theorem pend_next {L : Nat → List Nat} {bs : List Nat} {st : Nat} : pend (dL L bs st) (dB bs st) = pend L bs := by
  cases bs with
  | nil => rfl
  | cons b t =>
    unfold dL dB
    simp only
    split <;> rfl
/-- How often a block is in the lists. -/
def sm (L : Nat → List Nat) (k : Nat) : Nat := (L 0).count k + (L 1).count k + (L 2).count k + (L 3).count k
theorem sm_up {L : Nat → List Nat} {b k : Nat} : sm (up L (cl b) (b :: L (cl b))) k = sm L k + [b].count k := by
  have hc : cl b ≤ 3 := by have := cl_in b; omega
  unfold sm
  rcases four hc with e | e | e | e <;> rw [e] <;> simp [up, List.count_cons] <;> omega
theorem sm_pend {L : Nat → List Nat} {bs : List Nat} {k : Nat} : sm (pend L bs) k = sm L k + bs.count k := by
  induction bs generalizing L with
  | nil => rfl
  | cons b t ih =>
    show sm (pend (up L (cl b) (b :: L (cl b))) t) k = _
    rw [ih, sm_up]
    simp [List.count_cons]
    omega
theorem Pd.next {K : Int} {A : Int → List Int} {T : Nat → Int} {L : Nat → List Nat} {bs : List Nat} {st : Nat} {x : Int} (h : Pd K A T L bs st x) (hK : 0 ≤ K ∧ K ≤ 1000000) :
    ∃ T', Pd (K + 1) (dA A bs st x) T' (dL L bs st) (dB bs st) (dS bs st) (dX A bs st x) := by
  have hn := h.dk.next
  cases bs with
  | nil => exact ⟨T, ⟨h.ch.more (by omega), hn, fun b hb => absurd hb List.not_mem_nil, List.nodup_nil, fun b t e => by cases e⟩⟩
  | cons b t =>
    have hb := h.dk.lt b (List.mem_cons_self ..)
    have hc : cl b ≤ 3 := by have := cl_in b; omega
    have h3 : st = 0 ∨ st = 1 ∨ st = 2 := by have := h.dk.st2; omega
    rcases h3 with rfl | rfl | rfl
    · exact ⟨T, ⟨h.ch.more (by omega), hn, h.out, h.nd, fun b' t' e e2 => by simp [dS] at e2⟩⟩
    · have hx := h.dk.two b t rfl (by decide)
      refine ⟨T, ⟨⟨?_, ?_, fun c hc' => ?_, h.ch.lcl, (h.ch.more (K' := K + 1) (by omega)).T0, ?_, ?_, ?_, fun j hj => ?_⟩, hn, h.out, h.nd, fun b' t' e e2 => ?_⟩⟩
      · show upd A 8 b (x % 65536) 7 = _
        rw [upd_ne (by decide)]; exact h.ch.a7
      · show (upd A 8 b (x % 65536) 8).length = 6
        rw [show upd A 8 b (x % 65536) 8 = (A 8).set b (x % 65536) from if_pos rfl, List.length_set]
        exact h.ch.l8
      · show Links (upd A 8 b (x % 65536) 8) (L c)
        rw [show upd A 8 b (x % 65536) 8 = (A 8).set b (x % 65536) from if_pos rfl]
        exact links_set (h.out b (List.mem_cons_self ..) c hc') (h.ch.lin c hc')
      · show (upd A 8 b (x % 65536) 3).length = 1
        rw [upd_ne (by decide)]; exact h.ch.l3
      · show (upd A 8 b (x % 65536) 4).length = 1
        rw [upd_ne (by decide)]; exact h.ch.l4
      · show (upd A 8 b (x % 65536) 5).length = 1
        rw [upd_ne (by decide)]; exact h.ch.l5
      · have hj' : j < (upd A 8 b (x % 65536) 8).length := hj
        rw [show upd A 8 b (x % 65536) 8 = (A 8).set b (x % 65536) from if_pos rfl, List.length_set] at hj'
        show 0 ≤ (upd A 8 b (x % 65536) 8).getD j 0 ∧ (upd A 8 b (x % 65536) 8).getD j 0 ≤ MX
        rw [upd_get (by rw [h.ch.l8]; exact hb)]
        split
        · have hm := Int.emod_nonneg x (show (65536 : Int) ≠ 0 by decide)
          have hm2 := Int.emod_lt_of_pos x (show (0 : Int) < 65536 by decide)
          unfold MX
          omega
        · exact h.ch.u8 j hj'
      · simp only [dB] at e
        rw [if_neg (by decide)] at e
        injection e with e1 e3
        subst e1
        show (upd A 8 b (x % 65536) 8).getD b 0 = x % 65536
        rw [show upd A 8 b (x % 65536) 8 = (A 8).set b (x % 65536) from if_pos rfl]
        exact getD_set_at (by rw [h.ch.l8]; exact hb)
    · have hx := h.dk.two b t rfl (by decide)
      have hl := h.lnk b t rfl rfl
      have hT := h.ch.T0 (cl b) hc
      have htop := h.ch.top hc
      rw [h.ch.a7, hds_at hc] at hx
      have hxd : x / 65536 = T (cl b) := by omega
      have hxm : x % 65536 = hd (L (cl b)) := by omega
      have hbm : bmp x b = (T (cl b) + 1) * 65536 + hd (b :: L (cl b)) := by
        unfold bmp
        rw [hxd, Int.emod_eq_of_lt (by omega) (by omega)]
        rfl
      have hnt := List.nodup_cons.1 h.nd
      refine ⟨up T (cl b) (T (cl b) + 1), (show Pd (K + 1) _ _ (up L (cl b) (b :: L (cl b))) _ _ _ from ⟨⟨?_, ?_, fun c hc' => ?_, fun c hc' => ?_, fun c hc' => ?_, ?_, ?_, ?_, fun j hj => ?_⟩, hn, fun b' hb' c hc' => ?_, hnt.2, fun b' t' e e2 => by simp [dS] at e2⟩)⟩
      · show upd A 7 (cl b) (bmp x b) 7 = _
        rw [show upd A 7 (cl b) (bmp x b) 7 = (A 7).set (cl b) (bmp x b) from if_pos rfl, h.ch.a7, hbm, hds_up hc]
      · show (upd A 7 (cl b) (bmp x b) 8).length = 6
        rw [upd_ne (by decide)]; exact h.ch.l8
      · show Links (upd A 7 (cl b) (bmp x b) 8) _
        rw [upd_ne (by decide)]
        by_cases e : c = cl b
        · subst e
          rw [up_at]
          exact ⟨by rw [hl, hxm], h.ch.lin _ hc'⟩
        · rw [up_ne e]
          exact h.ch.lin c hc'
      · by_cases e : c = cl b
        · subst e
          rw [up_at]
          intro b' hb'
          rcases List.mem_cons.1 hb' with rfl | hb'
          · exact hb
          · exact h.ch.lcl _ hc' b' hb'
        · rw [up_ne e]
          exact h.ch.lcl c hc'
      · by_cases e : c = cl b
        · subst e
          rw [up_at]
          omega
        · rw [up_ne e]
          have := h.ch.T0 c hc'
          omega
      · show (upd A 7 (cl b) (bmp x b) 3).length = 1
        rw [upd_ne (by decide)]; exact h.ch.l3
      · show (upd A 7 (cl b) (bmp x b) 4).length = 1
        rw [upd_ne (by decide)]; exact h.ch.l4
      · show (upd A 7 (cl b) (bmp x b) 5).length = 1
        rw [upd_ne (by decide)]; exact h.ch.l5
      · have hj' : j < (upd A 7 (cl b) (bmp x b) 8).length := hj
        show 0 ≤ (upd A 7 (cl b) (bmp x b) 8).getD j 0 ∧ (upd A 7 (cl b) (bmp x b) 8).getD j 0 ≤ MX
        rw [upd_ne (by decide)] at hj' ⊢
        exact h.ch.u8 j hj'
      · have hbt : b' ∈ t := hb'
        by_cases e : c = cl b
        · subst e
          rw [up_at]
          intro hm
          rcases List.mem_cons.1 hm with rfl | hm
          · exact hnt.1 hbt
          · exact h.out b' (List.mem_cons_of_mem _ hbt) _ hc' hm
        · rw [up_ne e]
          exact h.out b' (List.mem_cons_of_mem _ hbt) c hc'
theorem Pd.start {K : Int} {A : Int → List Int} {T : Nat → Int} {L : Nat → List Nat} {bs : List Nat} (h : Ch K A T L) (hK : K ≤ 1000000) (hb : ∀ b ∈ bs, b < 6) (ho : ∀ b ∈ bs, ∀ c, c ≤ 3 → b ∉ L c) (hn : bs.Nodup) : Pd K A T L bs 0 0 := ⟨h, .start (h.six hK) hb, ho, hn, fun _ _ _ e => by cases e⟩
/-- How many steps a drain is on: n blocks at first. -/
def on {α : Type} (n : Nat) (bs : List α) (st : Nat) : Nat := 3 * (n - bs.length) + st
theorem on_next {α : Type} {n : Nat} {bs : List α} {st : Nat} (h : bs ≠ []) (hn : bs.length ≤ n) (h2 : st ≤ 2) : on n (dB bs st) (dS bs st) = on n bs st + 1 ∧ (dB bs st).length ≤ n := by
  cases bs with
  | nil => exact absurd rfl h
  | cons b t =>
    simp only [List.length_cons] at hn
    unfold on dB dS
    simp only
    split
    · rename_i e
      subst e
      simp only [List.length_cons]
      omega
    · simp only [List.length_cons]
      omega
/-- A drain behind n steps. -/
def dI (A : Int → List Int) (bs : List Nat) : Nat → (Int → List Int) × List Nat × Nat × Int
  | 0 => (A, bs, 0, 0)
  | n + 1 => (dA (dI A bs n).1 (dI A bs n).2.1 (dI A bs n).2.2.1 (dI A bs n).2.2.2, dB (dI A bs n).2.1 (dI A bs n).2.2.1, dS (dI A bs n).2.1 (dI A bs n).2.2.1, dX (dI A bs n).1 (dI A bs n).2.1 (dI A bs n).2.2.1 (dI A bs n).2.2.2)
def T0 : Nat → Int := fun _ => 0
def L0 : Nat → List Nat := fun c => if c = 0 then [0, 1, 2] else if c = 1 then [3, 4] else if c = 2 then [5] else []
def N0 : List Int := [2, 3, 0, 5, 0, 0]
theorem ch0 {A : Int → List Int} (h7 : A 7 = [1, 4, 6, 0]) (h8 : A 8 = N0) (h3 : (A 3).length = 1) (h4 : (A 4).length = 1) (h5 : (A 5).length = 1) : Ch 0 A T0 L0 := by
  refine ⟨by rw [h7]; decide, by rw [h8]; rfl, fun c hc => ?_, fun c hc => ?_, fun c hc => by simp [T0], h3, h4, h5, fun j hj => ?_⟩
  · rw [h8]
    rcases four hc with rfl | rfl | rfl | rfl <;> simp [Links, L0, N0, hd]
  · rcases four hc with rfl | rfl | rfl | rfl <;> simp [L0]
  · rw [h8] at hj ⊢
    have hj6 : j < 6 := hj
    have : j = 0 ∨ j = 1 ∨ j = 2 ∨ j = 3 ∨ j = 4 ∨ j = 5 := by omega
    rcases this with rfl | rfl | rfl | rfl | rfl | rfl <;> decide
end Go.Proofs.Ytpjbmbipkmpkhaa.LmP
namespace Go.Proofs.Ytpjbmbipkmpkhaa.LmA
open Go.ChangeShapes Go.WideShapes Go.ChangeAt Go.RowKit
open PlainT BlkW LayS LayA LayH LayK CelS CelM CelP CelV CelN CelO CelF LabD LabR LabP LabS LabX LabN CelLo RsA ObjA ClnA FreP LmP
set_option linter.unusedVariables false
set_option maxHeartbeats 1000000
set_option maxRecDepth 100000

abbrev TLb : TypeId := 157
abbrev TFr : TypeId := 159
abbrev TDr : TypeId := 162
abbrev TPu : TypeId := 146
abbrev TPp : TypeId := 69
abbrev TPo : TypeId := 148
abbrev TRl : TypeId := 107
abbrev TRd : TypeId := 104
abbrev TRp : TypeId := 83
abbrev PV (g : Nat) : Value := .pointer (some ⟨g, 0, none⟩)
/-- A row of the call's own, of any values. -/
def rv (T : TypeId) (sz : Nat) (v : Value) (n : Nat) (cs : List Value) : Ob where
  fp := v.ownBlock.toList
  is w := w.ownsRow 0 T sz v n cs
  keep h hk := own_of_block h fun g hg => hk g (mem_blk hg)
  lt h g hg := (World.ownsRow.lt h g (blk_mem hg)).2
theorem rv_slice {w : World} {T : TypeId} {sz n : Nat} {v : Value} {cs : List Value} (h : (rv T sz v n cs).is w) : ∃ A c, v = .slice A n c ∧ n ≤ c ∧ c ≤ maxLen := own_slice h
theorem rv_cells {w : World} {T : TypeId} {sz n : Nat} {v : Value} {cs : List Value} (h : (rv T sz v n cs).is w) (hn : 0 < n) : ∃ g c, v = .slice (some ⟨g, 0, none⟩) n c ∧ ∀ j u, cs[j]? = some u → w.cell? ⟨g, j, none⟩ = some u := by
  obtain ⟨g, c, cur, e, _, _, _, hc⟩ := own_cells h hn
  refine ⟨g, c, e, fun j u hj => ?_⟩
  have hl := (List.getElem?_eq_some_iff.1 hj).1
  have : cs.length = n * sz := h.1
  rw [hc j (by omega), hj]
section
variable {w0 w w' : World} {lo hi b rb : Nat} {q : Cfg} {A B : Int → List Int} {X rs : List Ob}
/-- An element is put at the end of a row of the call's own. -/
theorem Lo.pushV {T ts : TypeId} {sz bytes : Nat} {z : Value} {inf : TypeInfo} (ht : Try.prog.underlying ts = some (.slice T)) (hif : Try.prog.info? T = some inf) (hz : inf.zero = some z) (hs : inf.size = sz) (hby : inf.bytes = bytes) (hzs : z.cells.size = sz) (h0 : 0 < sz) (hb : bytes ≤ 1000)
    (h : Lo w0 lo hi b rb q A B (X ++ rs) w) (k : Nat) {v : Value} {n : Nat} {cs : List Value} (he : rs[k]? = some (rv T sz v n cs)) (hn : n ≤ 300000) (news : List Value) (hl : news.length = sz) (h1 : ∀ u ∈ news, u.oneCell' = true) :
    ∃ Aa c w', (Builtin.append_ #[ts, ts] ts #[v, .slice (some ⟨w.heap.size, 0, none⟩) 1 1]).run Try.prog (w.alloc (.cells news.toArray T)) = .ok (.slice Aa (n + 1) c) w' ∧ Lo w0 lo hi b rb q A B (X ++ rs.set k (rv T sz (.slice Aa (n + 1) c) (n + 1) (cs ++ news))) w' := by
  have hown : w.ownsRow 0 T sz v n cs := h.isR k he
  have hown1 := hown.alloc (.cells news.toArray T)
  have hnb : (n + 1) * bytes ≤ (n + 1) * 1000 := Nat.mul_le_mul_left _ hb
  obtain ⟨v', w', hrun, hown', hgr, _, hat⟩ := run_append_own_at (P := Try.prog) (w := w.alloc (.cells news.toArray T)) 0 ts ts T inf z sz bytes ht hif hz hs hby hzs h0 v n cs hown1 ⟨w.heap.size, 0, none⟩ 1 1 news (by omega) (cell_lit (W := w) (l := news)) h1
    (by unfold maxLen; omega) (by omega) (Nat.zero_le _)
  obtain ⟨Aa, c, rfl, _⟩ := own_slice hown'
  have hb' : Below 0 w w' := ((Below.refl 0 w).alloc (Nat.zero_le _) _).grown hgr (Nat.zero_le _) (fun k hk => (own_row hown1 k hk).1)
  have hf : ∀ g2, g2 < w.heap.size → v.ownBlock ≠ some g2 → w'.heap[g2]? = w.heap[g2]? := fun g2 hg2 hne => (hgr.block g2 (by rw [size_new]; omega) (fun e => hne e.symm)).trans (BlkW.heap_alloc_old w _ g2 hg2)
  refine ⟨Aa, c, w', hrun, ?_⟩
  have hvl : ∀ g, v.ownBlock = some g → hi ≤ g := fun g hg => h.hi_ _ _ (rs_at he) g (mem_blk hg)
  have F : Fr (PO lo hi (rv T sz v n cs)) w w' := ⟨hb'.os, hb'.tape, hb'.output, hb'.size, fun g hg hp => hf g hg fun e => hp (.inr (mem_blk e))⟩
  refine h.stepR k he (h.duo.fr (P := fun x => v.ownBlock = some x) ⟨F.os, F.tape, F.output, F.size, fun g hg hp => hf g hg hp⟩ fun g h1 h2 e => by have := hvl g e; omega) hown' F fun g hg => ?_
  have hgb := blk_mem hg
  rcases hat with hat | hat
  · left
    rw [hat] at hgb
    exact mem_blk hgb
  · right
    rw [hat] at hgb
    injection hgb with hgb
    rw [size_new] at hgb
    omega
/-- A row that begins. -/
theorem Lo.nilV (h : Lo w0 lo hi b rb q A B X w) (T : TypeId) (sz : Nat) : Lo w0 lo hi b rb q A B (X ++ [rv T sz (.slice none 0 0) 0 []]) w :=
  h.add (Below.refl _ _) (World.ownsRow_nil _ _ _ _) fun g hg => absurd hg List.not_mem_nil
theorem Lo.nilVR (h : Lo w0 lo hi b rb q A B (X ++ rs) w) (T : TypeId) (sz : Nat) : Lo w0 lo hi b rb q A B (X ++ (rs ++ [rv T sz (.slice none 0 0) 0 []])) w := by
  have := Lo.nilV h T sz
  rwa [List.append_assoc] at this
theorem Lo.vR (h : Lo w0 lo hi b rb q A B (X ++ rs) w) (k : Nat) {T : TypeId} {sz n c gl : Nat} {cs : List Value} (he : rs[k]? = some (rv T sz (.slice (some ⟨gl, 0, none⟩) n c) n cs)) (hn : 0 < n) (j : Nat) {u : Value} (hj : cs[j]? = some u) : w.cell? ⟨gl, j, none⟩ = some u := by
  obtain ⟨g, c', e, hc⟩ := rv_cells (h.isR k he : (rv T sz (.slice (some ⟨gl, 0, none⟩) n c) n cs).is w) hn
  injection e with e1
  injection e1 with e1
  injection e1 with e1
  rw [e1]
  exact hc j u hj
end
theorem info_pp : ∃ i, Try.prog.info? TPp = some i ∧ i.zero = some (.pointer none) ∧ i.size = 1 ∧ i.bytes = 8 := ⟨_, rfl, by kernel_rfl, by kernel_rfl, by kernel_rfl⟩
theorem info_fr : ∃ i, Try.prog.info? TFr = some i ∧ i.zero = some (.agg #[.int .i64 0, .int .i64 0]) ∧ i.size = 2 ∧ i.bytes = 16 := ⟨_, rfl, by kernel_rfl, by kernel_rfl, by kernel_rfl⟩
section
variable {w0 w w' : World} {lo hi b rb : Nat} {q : Cfg} {A B : Int → List Int} {X rs : List Ob}
abbrev is (xs : List Int) : List Value := xs.map (Value.int .i64)
theorem Lo.pushI (h : Lo w0 lo hi b rb q A B (X ++ rs) w) (k : Nat) {v : Value} {n : Nat} {xs : List Int} (he : rs[k]? = some (rv TI 1 v n (is xs))) (hn : n ≤ 300000) (x : Int) :
    ∃ Aa c w', (Builtin.append_ #[47, 47] 47 #[v, .slice (some ⟨w.heap.size, 0, none⟩) 1 1]).run Try.prog (w.alloc (.cells #[.int .i64 x] TI)) = .ok (.slice Aa (n + 1) c) w' ∧ Lo w0 lo hi b rb q A B (X ++ rs.set k (rv TI 1 (.slice Aa (n + 1) c) (n + 1) (is (xs ++ [x])))) w' := by
  obtain ⟨i, h1, h2, h3, h4⟩ := info_i
  obtain ⟨Aa, c, w', hr, hL⟩ := Lo.pushV Try.underlying47 h1 h2 h3 h4 rfl (by decide) (by decide) h k he hn [.int .i64 x] rfl (by simp [Value.oneCell'])
  refine ⟨Aa, c, w', hr, ?_⟩
  rw [show is (xs ++ [x]) = is xs ++ [.int .i64 x] by simp [is]]
  exact hL
theorem Lo.pushP (h : Lo w0 lo hi b rb q A B (X ++ rs) w) (k : Nat) {v : Value} {n : Nat} {cs : List Value} (he : rs[k]? = some (rv TPp 1 v n cs)) (hn : n ≤ 300000) (g : Nat) :
    ∃ Aa c w', (Builtin.append_ #[160, 160] 160 #[v, .slice (some ⟨w.heap.size, 0, none⟩) 1 1]).run Try.prog (w.alloc (.cells #[PV g] TPp)) = .ok (.slice Aa (n + 1) c) w' ∧ Lo w0 lo hi b rb q A B (X ++ rs.set k (rv TPp 1 (.slice Aa (n + 1) c) (n + 1) (cs ++ [PV g]))) w' := by
  obtain ⟨i, h1, h2, h3, h4⟩ := info_pp
  exact Lo.pushV Try.underlying160 h1 h2 h3 h4 rfl (by decide) (by decide) h k he hn [PV g] rfl (by simp [Value.oneCell'])
theorem Lo.pushF (h : Lo w0 lo hi b rb q A B (X ++ rs) w) (k : Nat) {v : Value} {n : Nat} {ws : WL} (he : rs[k]? = some (rv TFr 2 v n (fcs ws))) (hn : n ≤ 300000) (b0 : Nat) (z : Int) :
    ∃ Aa c w', (Builtin.append_ #[155, 155] 155 #[v, .slice (some ⟨w.heap.size, 0, none⟩) 1 1]).run Try.prog (w.alloc (.cells #[.int .i64 b0, .int .i64 z] TFr)) = .ok (.slice Aa (n + 1) c) w' ∧ Lo w0 lo hi b rb q A B (X ++ rs.set k (rv TFr 2 (.slice Aa (n + 1) c) (n + 1) (fcs (ws ++ [(b0, z)])))) w' := by
  obtain ⟨i, h1, h2, h3, h4⟩ := info_fr
  obtain ⟨Aa, c, w', hr, hL⟩ := Lo.pushV Try.underlying155 h1 h2 h3 h4 rfl (by decide) (by decide) h k he hn [.int .i64 b0, .int .i64 z] rfl (by simp [Value.oneCell'])
  refine ⟨Aa, c, w', hr, ?_⟩
  rw [fcs_push]
  exact hL
end
/-- A slice that reads as some values, in a block that is there. -/
structure RdV (w : World) (v : Value) (vs : List Value) : Prop where
  slice : ∃ p cap, v = .slice p vs.length cap ∧ vs.length ≤ cap ∧ cap ≤ maxLen ∧ ∀ j x, vs[j]? = some x → ∃ g o, p = some ⟨g, o, none⟩ ∧ w.cell? ⟨g, o + j, none⟩ = some x
  lt : ∀ g, v.ownBlock = some g → g < w.heap.size
theorem RdV.keep {w w' : World} {v : Value} {vs : List Value} (h : RdV w v vs) (hk : ∀ g, v.ownBlock = some g → w'.heap[g]? = w.heap[g]?) : RdV w' v vs := by
  obtain ⟨⟨p, cap, rfl, h1, h2, hc⟩, hl⟩ := h
  refine ⟨⟨p, cap, rfl, h1, h2, fun j x hj => ?_⟩, fun g hg => lt_keep (hl g hg) (hk g hg)⟩
  obtain ⟨g, o, rfl, hx⟩ := hc j x hj
  exact ⟨g, o, rfl, (World.cell?_of_block (hk g rfl)).trans hx⟩
def rdv (v : Value) (vs : List Value) : Ob where
  fp := v.ownBlock.toList
  is w := RdV w v vs
  keep h hk := RdV.keep h fun g hg => hk g (mem_blk hg)
  lt h g hg := RdV.lt h g (blk_mem hg)
theorem rdv_own {T : TypeId} {w : World} {B : Nat} {v : Value} {n : Nat} {vs : List Value} (h : w.ownsRow B T 1 v n vs) : RdV w v vs := by
  have hn : vs.length = n := by have := h.1; omega
  subst hn
  refine ⟨?_, fun g hg => (World.ownsRow.lt h g hg).2⟩
  rcases Nat.eq_zero_or_pos vs.length with h0 | h0
  · obtain ⟨A, c, rfl, h1, h2⟩ := own_slice h
    exact ⟨A, c, rfl, h1, h2, fun j x hj => by
      have := (List.getElem?_eq_some_iff.1 hj).1
      omega⟩
  · obtain ⟨A, c, rfl, h1, h2⟩ := own_slice h
    obtain ⟨g, cap, cur, e, _, _, _, hc⟩ := own_cells h h0
    injection e with e1 e2 e3
    subst e1 e3
    refine ⟨_, _, rfl, h1, h2, fun j x hj => ⟨g, 0, rfl, ?_⟩⟩
    have hl := (List.getElem?_eq_some_iff.1 hj).1
    rw [Nat.zero_add, hc j (by omega), hj]
theorem RdV.cell {w : World} {v : Value} {vs : List Value} (h : RdV w v vs) (hx : 0 < vs.length) : ∃ g o cap, v = .slice (some ⟨g, o, none⟩) vs.length cap ∧ vs.length ≤ cap ∧ cap ≤ maxLen ∧ ∀ j x, vs[j]? = some x → w.cell? ⟨g, o + j, none⟩ = some x := by
  obtain ⟨⟨p, cap, rfl, h1, h2, hc⟩, hl⟩ := h
  obtain ⟨g, o, rfl, _⟩ := hc 0 (vs[0]'hx) (by rw [List.getElem?_eq_getElem])
  refine ⟨g, o, cap, rfl, h1, h2, fun j x hj => ?_⟩
  obtain ⟨g', o', e, hx⟩ := hc j x hj
  injection e with e
  injection e with e1 e2
  rw [e1, e2]
  exact hx
theorem RdV.tail {w : World} {p : Option Addr} {n cap : Nat} {x : Value} {xs : List Value} (h : RdV w (.slice p n cap) (x :: xs)) (p' : Option Addr) (hp : cap ≠ 1 → p' = p.map fun a => a.add 1) (hn : ∀ g, p'.map Addr.block = some g → p.map Addr.block = some g) : RdV w (.slice p' (n - 1) (cap - 1)) xs := by
  obtain ⟨⟨p2, cap2, e, h1, h2, hc⟩, hl⟩ := h
  injection e with e1 e2 e3
  subst e1 e2 e3
  rw [List.length_cons] at h1
  refine ⟨⟨p', cap - 1, by rw [List.length_cons, Nat.add_sub_cancel], by omega, by omega, fun j y hj => ?_⟩, fun g hg => hl g ?_⟩
  · have hj1 := (List.getElem?_eq_some_iff.1 hj).1
    obtain ⟨g, o, rfl, hy⟩ := hc (j + 1) y (by simpa using hj)
    refine ⟨g, o + 1, by rw [hp (by omega)]; simp [Addr.add], ?_⟩
    rw [← hy]
    congr 2
    omega
  · have h1 : p'.map Addr.block = some g := by
      cases p' with
      | none => cases hg
      | some a => simpa [Value.ownBlock] using hg
    have h2 := hn g h1
    cases p with
    | none => cases h2
    | some a => simpa [Value.ownBlock] using h2
/-- The slice without its first element. -/
theorem tailV_run {T ts : TypeId} (hu : Try.prog.underlying ts = some (.slice T)) (hz : ∀ wx : World, (sizeOf (Try.prog.elem ts)).run Try.prog wx = .ok 1 wx) (g o n c : Nat) (h1 : 1 ≤ n) (h2 : n ≤ c) :
    ∃ p, (∀ wx : World, (Instr.slice ts (.slice (some ⟨g, o, none⟩) n c) (some (.int .i64 1)) none none).run Try.prog wx = .ok (.slice p (n - 1) (c - 1)) wx) ∧ (Value.slice p (n - 1) (c - 1)).ownBlock = some g ∧
      ∀ (w : World) (x : Value) (xs : List Value), RdV w (.slice (some ⟨g, o, none⟩) n c) (x :: xs) → RdV w (.slice p (n - 1) (c - 1)) xs := by
  have he : Try.prog.elem ts = T := by simp [Program.elem, hu]
  refine ⟨if c = 1 then some ⟨g, o, none⟩ else some ⟨g, o + 1, none⟩, fun wx => ?_, ?_, fun w x xs h => ?_⟩
  · rw [run_slice_l (P := Try.prog) (w := wx) ts (some ⟨g, o, none⟩) n c (by rw [he]; exact hu) .i64 1 (by omega) (by omega), hz wx]
    simp only [Result.andThen, sliced]
    split
    · rename_i e
      rw [if_pos (by simpa using e)]
      rfl
    · rename_i e
      rw [if_neg (by simpa using e)]
      simp [Addr.add]
  · split <;> rfl
  · refine h.tail _ (fun hc => ?_) fun g' hg => ?_
    · rw [if_neg hc]
      simp [Addr.add]
    · split at hg <;> exact hg
/-- What holds beside all blocks. -/
def pur (p : Prop) : Ob where
  fp := []
  is _ := p
  keep h _ := h
  lt _ _ h := absurd h List.not_mem_nil
/-! The objects. A push: its box and its block. -/
abbrev uBox (st c b x : Int) : Array Value := #[.int .i64 st, .int .i64 c, .int .i64 b, .int .u64 x]
abbrev ruBox (st c b x : Int) : Array Value := #[.int .i64 c, .int .i64 b, .int .i64 st, .int .u64 x]
abbrev PL : Type := List (Nat × Nat)
/-- The boxes of pushes that have not begun. -/
def bxs : PL → Ob
  | [] => nob
  | p :: ps => joi (bx p.1 TPu (uBox 0 (cl p.2) p.2 0)) (bxs ps)
/-- The boxes of pushes, the first of which has begun. -/
def mch (ps : PL) (st : Nat) (x : Int) : Ob :=
  match ps with
  | [] => nob
  | p :: ps => joi (bx p.1 TPu (uBox st (cl p.2) p.2 x)) (bxs ps)
theorem mch_zero (ps : PL) : mch ps 0 0 = bxs ps := by
  cases ps <;> rfl
theorem bxs_fp (ps : PL) (g : Nat) : g ∈ (bxs ps).fp ↔ g ∈ ps.map Prod.fst := by
  induction ps with
  | nil => exact Iff.rfl
  | cons p ps ih =>
    show g ∈ [p.1] ++ (bxs ps).fp ↔ _
    simp [ih]
theorem bxs_push {w : World} {ps : PL} {g k : Nat} (h : (bxs ps).is w) (M : Mem w g TPu (uBox 0 (cl k) k 0)) (hn : g ∉ (bxs ps).fp) : (bxs (ps ++ [(g, k)])).is w := by
  induction ps with
  | nil => exact ⟨M, trivial, fun _ _ h => absurd h List.not_mem_nil⟩
  | cons p ps ih =>
    obtain ⟨h1, h2, h3⟩ := h
    have hn' : g ∉ (bxs ps).fp := fun e => hn (List.mem_append_right _ e)
    refine ⟨h1, ih h2 hn', fun x hx hm => ?_⟩
    have hm : x ∈ (bxs (ps ++ [(g, k)])).fp := hm
    rw [bxs_fp, List.map_append, List.mem_append] at hm
    rcases hm with hm | hm
    · exact h3 x hx ((bxs_fp ps x).2 hm)
    · have e1 : x = p.1 := List.mem_singleton.1 hx
      have e2 : x = g := List.mem_singleton.1 hm
      exact hn (List.mem_append_left _ (List.mem_singleton.2 (e2.symm.trans e1)))
def ptrs (ps : PL) : List Value := ps.map fun p => PV p.1
/-- The program's limbo, its drain; the reference's. -/
def clsl : List Int := [0, 0, 0, 1, 1, 2]
def lM (g : Nat) (sc sw : Value) (ws : WL) : Ob := joi (bx g TLb #[sc, sw]) (joi (rd .i64 sc clsl) (rv TFr 2 sw ws.length (fcs ws)))
def bI (bs : List Nat) : List Int := bs.map fun b => ((b : Nat) : Int)
/-- The reference's push. -/
def rpu (po : Option Addr) (bs : List Nat) (st : Nat) (x : Int) : Ob :=
  match po, bs with
  | some a, b :: _ => bx a.block TRp (ruBox st (cl b) b x)
  | _, _ => nob
/-- A box of the reference's: the configuration and two fields. -/
abbrev cfa (a b : Value) : Array Value := #[.int .i64 20, .int .i64 4, .int .i64 1, .int .i64 3, .int .i64 2, .int .i64 1, .int .i64 0, .int .i64 1, .int .i64 1, .int .i64 0, .int .i64 0, .int .i64 0, .bool false, a, b]
def qM (y : Nat) (vb vv : Value) (ws : WL) : Ob := joi (bx y TRl (cfa vb vv)) (joi (rv TI 1 vb ws.length (is (bsI ws))) (rv TI 1 vv ws.length (is (vsI ws))))
def dM (g : Nat) (v : Value) (ps : PL) (st : Nat) (x : Int) : Ob := joi (bx g TDr #[v]) (joi (rdv v (ptrs ps)) (mch ps st x))
def rM (y : Nat) (vb : Value) (po : Option Addr) (bs : List Nat) (st : Nat) (x : Int) : Ob := joi (bx y TRd (cfa vb (.pointer po))) (joi (rd .i64 vb (bI bs)) (joi (rpu po bs st x) (pur (bs ≠ [] → ∃ gp, po = some ⟨gp, 0, none⟩))))
theorem Lo.glue3 {w0 w : World} {lo hi b rb : Nat} {q : Cfg} {A B : Int → List Int} {X : List Ob} {o1 o2 o3 : Ob} (h : Lo w0 lo hi b rb q A B (X ++ [o1, o2, o3]) w) : Lo w0 lo hi b rb q A B (X ++ [joi o1 (joi o2 o3)]) w :=
  Lo.joinR (rs := [o1]) (Lo.joinR (rs := [o1, o2]) h 1 rfl) 0 rfl
/-- A row that is read, among the objects in front. -/
def Rdb (X : List Ob) (v : Value) (xs : List Int) : Prop := ∃ (j : Nat) (o : Ob), X[j]? = some o ∧ ∀ W, o.is W → RdR .i64 W v xs
theorem Rdb.at_ {w0 w : World} {lo hi b rb : Nat} {q : Cfg} {A B : Int → List Int} {X rs : List Ob} {v : Value} {xs : List Int} (k : Rdb X v xs) (h : Lo w0 lo hi b rb q A B (X ++ rs) w) : RdR .i64 w v xs := by
  obtain ⟨j, o, hj, ho⟩ := k
  exact ho w (h.is j o (ex_left hj))
theorem Rdb.cell {w0 w : World} {lo hi b rb : Nat} {q : Cfg} {A B : Int → List Int} {X rs : List Ob} {g o n c : Nat} {xs : List Int} (k : Rdb X (.slice (some ⟨g, o, none⟩) n c) xs) (h : Lo w0 lo hi b rb q A B (X ++ rs) w) {j : Nat} {x : Int} (hx : xs[j]? = some x) : w.cell? ⟨g, o + j, none⟩ = some (.int .i64 x) := by
  obtain ⟨⟨p, cap, e, _, _, hc⟩, _⟩ := k.at_ h
  injection e with e1 e2 e3
  obtain ⟨g', o', e, hy⟩ := hc j x hx
  rw [← e1] at e
  injection e with e
  injection e with e4 e5
  rw [e4, e5]
  exact hy
theorem Rdb.some {w0 w : World} {lo hi b rb : Nat} {q : Cfg} {A B : Int → List Int} {X rs : List Ob} {p : Option Addr} {n c : Nat} {xs : List Int} (k : Rdb X (.slice p n c) xs) (h : Lo w0 lo hi b rb q A B (X ++ rs) w) : xs.length = n ∧ (0 < n → ∃ g o, p = Option.some ⟨g, o, none⟩) := by
  obtain ⟨⟨p', cap, e, _, _, hc⟩, _⟩ := k.at_ h
  injection e with e1 e2 e3
  subst e1
  refine ⟨e2.symm, fun hn => ?_⟩
  obtain ⟨g, o, e, _⟩ := hc 0 (xs[0]'(by omega)) (List.getElem?_eq_getElem _)
  exact ⟨g, o, e⟩
theorem Lo.sub {w0 w : World} {lo hi b rb : Nat} {q : Cfg} {A B : Int → List Int} {ex ex' : List Ob} (h : Lo w0 lo hi b rb q A B ex w) (s : ex'.Sublist ex) : Lo w0 lo hi b rb q A B ex' w := by
  have key : ∀ (i : Nat) (o : Ob), ex'[i]? = some o → ∃ j : Nat, ex[j]? = some o := fun i o hi => List.mem_iff_getElem?.1 (s.subset (List.mem_of_getElem? hi))
  refine ⟨h.duo, fun i o hi => ?_, fun i o hi => ?_, nd_iff.2 ((nd_iff.1 h.nd).sublist s), h.old, h.lo_, h.le⟩
  · obtain ⟨j, hj⟩ := key i o hi
    exact h.is j o hj
  · obtain ⟨j, hj⟩ := key i o hi
    exact h.hi_ j o hj
end Go.Proofs.Ytpjbmbipkmpkhaa.LmA
