/-
  Package locker: three threads' machines over the cells.
-/
import Derived.Test.YtphnadchdhblpaaLkL
import Derived.Test.YtphnadchdhblpaaLkQ
namespace Go.Proofs.Ytphnadchdhblpaa.LkR
open Go.ChangeShapes Go.WideShapes Go.ChangeAt Go.RowKit
open LawFrame PlainT BlkW LayS LayA LayH LayK LayP CelS CelM CelP CelV CelN CelO CelF LabD LabR LabP LabS LabX LabN CelLo RsA ObjA LkP LkQ SrtA LkA LkB LkL
set_option linter.unusedVariables false
set_option maxHeartbeats 1000000

abbrev A3 (f : Nat → Value) : Array Value := #[f 0, f 1, f 2]
def Tn (o : Nat → Ob) (t : Nat) : List Ob := (List.range t).map o
theorem three {t : Nat} (ht : t < 3) : t = 0 ∨ t = 1 ∨ t = 2 := by omega
theorem a3_at {f : Nat → Value} {t : Nat} (ht : t < 3) : (A3 f)[t]? = some (f t) := by
  rcases three ht with rfl | rfl | rfl <;> rfl
theorem a3_set {f : Nat → Value} {t : Nat} (ht : t < 3) (v : Value) : (A3 f).setIfInBounds t v = A3 (upf f t v) := by
  rcases three ht with rfl | rfl | rfl <;> simp [A3, upf]
theorem a3_congr {f f' : Nat → Value} (h : ∀ u, u < 3 → f u = f' u) : A3 f = A3 f' := by
  simp only [A3, h 0 (by omega), h 1 (by omega), h 2 (by omega)]
theorem tn_at {o : Nat → Ob} {t n : Nat} (ht : t < n) : (Tn o n)[t]? = some (o t) := by
  unfold Tn
  rw [List.getElem?_map, List.getElem?_range ht]
  rfl
theorem tn_set {o : Nat → Ob} {t n : Nat} (ht : t < n) (x : Ob) : (Tn o n).set t x = Tn (upf o t x) n := by
  apply List.ext_getElem?
  intro j
  by_cases hj : j < n
  · rw [tn_at hj]
    by_cases e : t = j
    · subst e
      rw [List.getElem?_set_self (by simpa [Tn] using ht), upf_at]
    · rw [List.getElem?_set_ne e, tn_at hj, upf_ne (Ne.symm e)]
  · rw [List.getElem?_eq_none (by simpa [Tn] using hj), List.getElem?_eq_none (by simpa [Tn] using hj)]
theorem tn_succ {o : Nat → Ob} {t : Nat} (x : Ob) : Tn o t ++ [x] = Tn (upf o t x) (t + 1) := by
  apply List.ext_getElem?
  intro j
  have hl : (Tn o t).length = t := by simp [Tn]
  rcases Nat.lt_or_ge j t with h | h
  · rw [List.getElem?_append_left (by omega), tn_at h, tn_at (by omega), upf_ne (by omega)]
  · rw [List.getElem?_append_right (by omega), hl]
    by_cases e : j = t
    · subst e
      rw [Nat.sub_self, tn_at (by omega), upf_at]
      rfl
    · rw [List.getElem?_eq_none (by simp; omega), List.getElem?_eq_none (by simp [Tn]; omega)]
theorem tn_congr {o o' : Nat → Ob} {n : Nat} (h : ∀ u, u < n → o u = o' u) : Tn o n = Tn o' n := by
  unfold Tn
  exact List.map_congr_left fun u hu => h u (List.mem_range.1 hu)
section
variable {S : Nat → List Int} {kk : Nat → Nat} {V : List Int}
/-- The state of a thread's machine. -/
abbrev lst (S : Nat → List Int) (u k : Nat) (r : Bool) (f : Int) : LS := ⟨S u, List.replicate k 0, r, f⟩
theorem lst_ok (hS : SOk S) {u k : Nat} (hu : u < 3) (hk : k ≤ (S u).length) {r : Bool} {f : Int} (hf : r = true → f = 0) : LOk (lst S u k r f) :=
  ⟨by simpa using hk, by have := hS.few u hu; show (S u).length ≤ 1000; omega, hS.inS u hu, fun h => by show 0 ≤ f ∧ f ≤ 1000000; rw [hf h]; decide⟩
theorem gi_vok (h : GI S kk V) : VOk V := ⟨h.len, fun i => by have := h.word i; omega⟩
theorem set_self {V : List Int} {o : Nat} (h : o < V.length) : V.set o (V.getD o 0) = V := by
  rw [List.getD_eq_getElem?_getD, List.getElem?_eq_getElem h, Option.getD_some]
  exact List.set_getElem_self h
/-- A step of thread t's machine. -/
theorem gi_step (hS : SOk S) (h : GI S kk V) {t k : Nat} (ht : t < 3) (hkk : kk t = k) (hk : k ≤ (S t).length) {r : Bool} {f : Int} (hf : r = true → f = 0) :
    ∃ k' r' f', nxS (lst S t k r f) V = lst S t k' r' f' ∧ (r' = true → f' = 0) ∧ k' ≤ (S t).length ∧ GI S (upf kk t k') (V.set (lsO (lst S t k r f)) (lsP t (lst S t k r f) V)) ∧
      ((k = (S t).length ∧ k' = k ∧ V.set (lsO (lst S t k r f)) (lsP t (lst S t k r f) V) = V) ∨ (k < (S t).length ∧ k' = k + 1) ∨
       (k < (S t).length ∧ k' = k ∧ V.set (lsO (lst S t k r f)) (lsP t (lst S t k r f) V) = V ∧ (V.getD (lsO (lst S t k r f)) 0 = 0 → r = false ∧ r' = true))) := by
  have hok := lst_ok hS ht hk hf
  have ho := lsO_lt hok
  have hol : lsO (lst S t k r f) < V.length := by rw [h.len]; exact ho
  obtain ⟨x, hx⟩ : ∃ x, V.getD (lsO (lst S t k r f)) 0 = x := ⟨_, rfl⟩
  have hlx : lsX (lst S t k r f) V = x := hx
  have hse : V.set (lsO (lst S t k r f)) x = V := by rw [← hx]; exact set_self hol
  have hup : upf kk t k = kk := by rw [← hkk]; exact upf_id kk t
  have hw := h.word (lsO (lst S t k r f))
  rw [hx] at hw
  unfold nxS lsP
  rw [hlx, hx]
  simp only [List.length_replicate]
  by_cases hd : k = (S t).length
  · rw [if_pos hd, if_pos hd]
    exact ⟨k, r, f, rfl, hf, hk, by rw [hse, hup]; exact h, .inl ⟨hd, rfl, hse⟩⟩
  · have hlt : k < (S t).length := by omega
    rw [if_neg hd, if_neg hd]
    cases r with
    | true =>
      have hf0 := hf rfl
      subst hf0
      simp only [if_true]
      by_cases hx0 : x = 0
      · rw [if_pos hx0, if_pos hx0]
        have hat := (ls_cons hok (by simpa using hd)).2
        simp only [List.length_replicate] at hat
        refine ⟨k + 1, false, 0, by unfold lst; rw [← List.replicate_succ'], (fun h => by cases h), by omega, ?_, .inr (.inl ⟨hlt, rfl⟩)⟩
        have := GJ.more h (o := lsO (lst S t k true 0)) ht ho (by rw [hkk]; exact hat) fun v hv _ => GI.free h ho (hx.trans hx0) v hv
        rw [hkk] at this
        have e : (0 : Int) / 64 * 64 + (t : Int) + 1 = (t : Int) + 1 := by omega
        rw [e]
        exact this
      · rw [if_neg hx0, if_neg hx0]
        exact ⟨k, false, 0, rfl, fun h => (by cases h), hk, by rw [hse, hup]; exact h, .inr (.inr ⟨hlt, rfl, hse, fun e => absurd e hx0⟩)⟩
    | false =>
      simp only [Bool.false_eq_true, if_false]
      refine ⟨k, decide (x % 64 = 0), x, rfl, fun e => ?_, hk, by rw [hse, hup]; exact h, .inr (.inr ⟨hlt, rfl, hse, fun e => by simp [e]⟩)⟩
      have := of_decide_eq_true e
      omega
end
section
variable {w0 w : World} {lo hi b rb : Nat} {q : Cfg} {A B : Int → List Int} {X : List Ob} {o : Nat → Ob}
theorem lo_at {t : Nat} (ht : t < 3) : (X ++ Tn o 3)[X.length + t]? = some (o t) := by
  rw [List.getElem?_append_right (by omega), Nat.add_sub_cancel_left]
  exact tn_at ht
theorem lo_set3 {t : Nat} (ht : t < 3) (x : Ob) : (X ++ Tn o 3).set (X.length + t) x = X ++ Tn (upf o t x) 3 := by
  rw [List.set_append_right _ _ (by omega), Nat.add_sub_cancel_left, tn_set ht]
/-- Thread t's machine makes a step. -/
theorem z_step {S : Nat → List Int} {kk : Nat → Nat} {t k g : Nat} {r : Bool} {f : Int} {vl vo : Value} (h : Lo w0 lo hi b rb q A B (X ++ Tn o 3) w) (ht : t < 3) (ho : o t = lkM g t vl vo (lst S t k r f)) (hS : SOk S) (hI : GI S kk (A 2)) (hkk : kk t = k) (hk : k ≤ (S t).length) (hf : r = true → f = 0) :
    Calls Try.prog 53 #[.pointer (some ⟨g, 0, none⟩), .pointer (some ⟨b, 0, none⟩)] w fun e w' => ∃ v A' vl' vo' k' r' f', e = .returned v ∧ Lo w0 lo hi b rb q A' B (X ++ Tn (upf o t (lkM g t vl' vo' (lst S t k' r' f'))) 3) w' ∧ (∀ j, j ≠ 2 → A' j = A j) ∧ (r' = true → f' = 0) ∧ k' ≤ (S t).length ∧ GI S (upf kk t k') (A' 2) ∧
      ((k = (S t).length ∧ k' = k ∧ A' 2 = A 2) ∨ (k < (S t).length ∧ k' = k + 1) ∨ (k < (S t).length ∧ k' = k ∧ A' 2 = A 2 ∧ ((A 2).getD (lsO (lst S t k r f)) 0 = 0 → r = false ∧ r' = true))) := by
  obtain ⟨k', r', f', hnx, hf', hk', hI', hcase⟩ := gi_step hS hI ht hkk hk hf
  obtain ⟨k1, k2, k3, k4, k5, d, hac⟩ := lsAc_ex t (lst S t k r f) (A 2)
  have he : (X ++ Tn o 3)[X.length + t]? = some (lkM g t vl vo (lst S t k r f)) := by rw [← ho]; exact lo_at ht
  refine (x_step h he (lst_ok hS ht hk hf) (gi_vok hI) (by omega) (by omega) (Lib.hid hac)).mono ?_
  rintro e w' ⟨he', vl', vo', hL⟩
  rw [hnx, lo_set3 ht] at hL
  exact ⟨_, _, vl', vo', k', r', f', he', hL, fun j hj => upd_off hj, hf', hk', by rw [upd2]; exact hI', by rw [upd2]; exact hcase⟩
end
abbrev TA3 : TypeId := 81
abbrev ptrV (g : Nat) : Value := .pointer (some ⟨g, 0, none⟩)
/-- The machines of the threads below t. -/
def gp3 (g : Nat → Nat) (t u : Nat) : Value := if u < t then ptrV (g u) else .pointer none
section
variable {w0 w : World} {lo hi b rb ga : Nat} {q : Cfg} {A B : Int → List Int} {bp : Ob} {o : Nat → Ob} {g : Nat → Nat} {T : TypeId}
theorem lv_new {t g1 : Nat} (ht : t < 3) {x : Ob} (hL : Lo w0 lo hi b rb q A B (([bp, bx ga T (A3 (gp3 g t))] ++ Tn o t) ++ [x]) w) : Lo w0 lo hi b rb q A B ([bp, bx ga T (A3 (gp3 (upf g t g1) (t + 1)))] ++ Tn (upf o t x) (t + 1)) (w.setCell ⟨ga, t, none⟩ (ptrV g1)) := by
  have h2 := hL.put 1 t (ptrV g1) rfl
  rw [a3_set ht, show A3 (upf (gp3 g t) t (ptrV g1)) = A3 (gp3 (upf g t g1) (t + 1)) from a3_congr fun u hu => by
    unfold gp3
    by_cases e : u = t
    · subst e
      rw [upf_at, if_pos (by omega), upf_at]
    · rw [upf_ne e, upf_ne e]
      by_cases h : u < t
      · rw [if_pos h, if_pos (by omega)]
      · rw [if_neg h, if_neg (by omega)]] at h2
  rw [← tn_succ]
  exact h2
/-- The machines of three threads, and what the cells tell of them. -/
structure LvI (S : Nat → List Int) (g : Nat → Nat) (s : SL) (o : Nat → Ob) (A : Int → List Int) : Prop where
  ob : ∀ u, u < 3 → ∃ vl vo f, (s.r u = true → f = 0) ∧ o u = lkM (g u) u vl vo (lst S u (s.k u) (s.r u) f)
  le : ∀ u, u < 3 → s.k u ≤ (S u).length
  gi : GI S (eff s) (A 2)
  v : s.V = A 2
  one : (A 3).length = 1 ∧ (A 4).length = 1 ∧ (A 5).length = 1
theorem lv_step {S : Nat → List Int} {s : SL} {A' : Int → List Int} (h : LvI S g s o A) {t : Nat} (ht : t < 3) (hn : s.n t = false) {k' : Nat} {r' : Bool} {f' : Int} {vl' vo' : Value} (hA : ∀ j, j ≠ 2 → A' j = A j) (hf : r' = true → f' = 0) (hk : k' ≤ (S t).length) (hI : GI S (upf (eff s) t k') (A' 2))
    {f : Int} (hc : (s.k t = (S t).length ∧ k' = s.k t ∧ A' 2 = A 2) ∨ (s.k t < (S t).length ∧ k' = s.k t + 1) ∨ (s.k t < (S t).length ∧ k' = s.k t ∧ A' 2 = A 2 ∧ ((A 2).getD (lsO (lst S t (s.k t) (s.r t) f)) 0 = 0 → s.r t = false ∧ r' = true))) :
    LvI S g ⟨upf s.k t k', upf s.r t r', s.n, A' 2⟩ (upf o t (lkM (g t) t vl' vo' (lst S t k' r' f'))) A' ∧ (s.k t < (S t).length → Nx S t s ⟨upf s.k t k', upf s.r t r', s.n, A' 2⟩) := by
  refine ⟨⟨fun u hu => ?_, fun u hu => ?_, ?_, rfl, ?_⟩, fun hlt => ?_⟩
  · by_cases e : u = t
    · subst e
      refine ⟨vl', vo', f', ?_, ?_⟩
      · show upf s.r u r' u = true → f' = 0
        rw [upf_at]
        exact hf
      · show upf o u _ u = lkM (g u) u vl' vo' (lst S u (upf s.k u k' u) (upf s.r u r' u) f')
        rw [upf_at, upf_at, upf_at]
    · obtain ⟨vl, vo, f, h1, h2⟩ := h.ob u hu
      refine ⟨vl, vo, f, ?_, ?_⟩
      · show upf s.r t r' u = true → f = 0
        rw [upf_ne e]
        exact h1
      · show upf o t _ u = lkM (g u) u vl vo (lst S u (upf s.k t k' u) (upf s.r t r' u) f)
        rw [upf_ne e, upf_ne e, upf_ne e]
        exact h2
  · show upf s.k t k' u ≤ _
    by_cases e : u = t
    · subst e
      rw [upf_at]
      exact hk
    · rw [upf_ne e]
      exact h.le u hu
  · have : eff ⟨upf s.k t k', upf s.r t r', s.n, A' 2⟩ = upf (eff s) t k' := by
      funext u
      unfold eff
      by_cases e : u = t
      · subst e
        simp only [upf_at, hn]
        rfl
      · simp only [upf_ne e]
    rw [this]
    exact hI
  · rw [hA 3 (by decide), hA 4 (by decide), hA 5 (by decide)]
    exact h.one
  · rcases hc with ⟨e, _⟩ | ⟨_, rfl⟩ | ⟨_, rfl, e2, h0⟩
    · omega
    · exact .take hn hlt rfl rfl
    · refine .stay hn hlt rfl (upf_id _ _) (by show A' 2 = s.V; rw [h.v, e2]) (fun v hv => upf_ne hv) fun hz => ?_
      have e : nO S s t = lsO (lst S t (s.k t) (s.r t) f) := by
        unfold nO lsO
        simp
      rw [e, h.v] at hz
      have := h0 hz
      exact ⟨this.1, by show upf s.r t r' t = true; rw [upf_at]; exact this.2⟩
theorem lv_gone {S : Nat → List Int} {s : SL} {A' : Int → List Int} (h : LvI S g s o A) (hS : SOk S) {t : Nat} (ht : t < 3) (hn : s.n t = false) (hk : s.k t = (S t).length) (hA : ∀ j, j ≠ 2 → A' j = A j) (hA2 : A' 2 = relK (S t) (A 2)) :
    LvI S g ⟨s.k, s.r, upf s.n t true, A' 2⟩ o A' ∧ Nx S t s ⟨s.k, s.r, upf s.n t true, A' 2⟩ := by
  refine ⟨⟨h.ob, h.le, ?_, rfl, by rw [hA 3 (by decide), hA 4 (by decide), hA 5 (by decide)]; exact h.one⟩, .rel hn hk rfl rfl⟩
  have e : eff ⟨s.k, s.r, upf s.n t true, A' 2⟩ = upf (eff s) t 0 := by
    funext u
    unfold eff
    by_cases e : u = t
    · subst e
      simp only [upf_at, if_true]
    · simp only [upf_ne e]
  rw [e, hA2]
  refine GI.release h.gi hS ht ?_
  unfold eff
  rw [hn]
  exact hk
theorem iat {w0 w : World} {A : Option Addr} {n : Nat} {z : List Int} (h : Ints .i64 w0 A n z) (ho : Below w0.heap.size w0 w) {k : Nat} (hk : k < n) : ∃ b off x, A = some ⟨b, off, none⟩ ∧ b < w0.heap.size ∧ w.cell? ⟨b, off + k, none⟩ = some (.int .i64 x) := by
  obtain ⟨h1, h2, h3⟩ := h
  obtain ⟨b, off, rfl, hb, hc⟩ := h3 (by omega)
  exact ⟨b, off, _, rfl, hb, (World.cell?_of_block (ho.block b hb)).trans (hc k hk)⟩
theorem iat_at {w0 w w' : World} {b off n k : Nat} {z : List Int} {x : Int} (h : Ints .i64 w0 (some ⟨b, off, none⟩) n z) (ho : Below w0.heap.size w0 w) (hk : k < n) (hx : w'.cell? ⟨b, off + k, none⟩ = some (.int .i64 x)) (ho' : Below w0.heap.size w0 w') : w.cell? ⟨b, off + k, none⟩ = some (.int .i64 x) := by
  obtain ⟨h1, h2, h3⟩ := h
  obtain ⟨b', off', e, hb, hc⟩ := h3 (by omega)
  injection e with e
  injection e with e1 e2
  subst e1 e2
  rw [← hx]
  exact (World.cell?_of_block (ho.block b hb)).trans (World.cell?_of_block (ho'.block b hb)).symm
theorem relK_vok {l V : List Int} (h : VOk V) (hl : ∀ x ∈ l, 0 ≤ x ∧ x ≤ 5) : VOk (relK l V) := by
  refine ⟨by rw [relK_len]; exact h.1, fun i => ?_⟩
  rw [relK_get _ _ (fun x hx => by have := hl x hx; rw [h.1]; omega)]
  split
  · decide
  · exact h.2 i
theorem nat_at {S : Nat → List Int} (hS : SOk S) {t j : Nat} (ht : t < 3) (hj : j < (S t).length) : ∃ p : Nat, p < 6 ∧ (S t)[j]? = some (p : Int) := by
  have h0 := hS.inS t ht ((S t)[j]'hj) (List.getElem_mem hj)
  exact ⟨((S t)[j]'hj).toNat, by omega, by rw [List.getElem?_eq_getElem hj]; congr 1; omega⟩
theorem a3_bool {n : Nat → Bool} {t : Nat} (ht : t < 3) : (A3 fun u => .bool (n u)).setIfInBounds t (.bool true) = A3 fun u => .bool (upf n t true u) := by
  rw [a3_set ht]
  refine a3_congr fun u _ => ?_
  by_cases e : u = t
  · subst e
    rw [upf_at, upf_at]
  · rw [upf_ne e, upf_ne e]
theorem z_old {ex : List Ob} {i gm t k m : Nat} {S : Nat → List Int} {r : Bool} {f : Int} {vl vo : Value} (h : Lo w0 lo hi b rb q A B ex w) (he : ex[i]? = some (lkM gm t vl vo (lst S t k r f))) (hs : LOk (lst S t k r f)) (hk : k = m) : Calls Try.prog 50 #[.pointer (some ⟨gm, 0, none⟩)] w fun e w' => ∃ Aa c, e = .returned (.slice Aa m c) ∧ RdR .u64 w' (.slice Aa m c) (List.replicate m 0) ∧ Below w.heap.size w w' := by
  subst hk
  refine (x_old h he hs).mono ?_
  rintro e w' ⟨Aa, c, he', ho, hb⟩
  simp only [List.length_replicate] at he' ho
  exact ⟨Aa, c, he', rdr_own (by rw [List.length_replicate]; exact ho), hb⟩
theorem pl3 (x : Int) : ∃ t : Nat, t < 3 ∧ pl x 3 = t := by
  have := pl_in x 3 (by decide) (by decide)
  exact ⟨(pl x 3).toNat, by omega, by omega⟩
theorem sok_of {W S : Nat → List Int} (h : ∀ t, t < 3 → (W t).length ≤ 8 ∧ ∀ x ∈ W t, 0 ≤ x ∧ x ≤ 5) (e : ∀ u, S u = srt (W u)) : SOk S :=
  ⟨fun u _ => by rw [e]; exact asc_srt _, fun u hu x hx => (h u hu).2 x (mem_srt.1 (by rw [← e]; exact hx)), fun u hu => by rw [e]; exact Nat.le_trans (srt_len _) (h u hu).1⟩
theorem lv_start {S : Nat → List Int} (hA : A 2 = [0, 0, 0, 0, 0, 0]) (h1 : (A 3).length = 1 ∧ (A 4).length = 1 ∧ (A 5).length = 1) (ho : ∀ u, u < 3 → ∃ vl, o u = lkM (g u) u vl (.slice none 0 0) (lst S u 0 false 0)) :
    LvI S g ⟨fun _ => 0, fun _ => false, fun _ => false, A 2⟩ o A := by
  refine ⟨fun u hu => ?_, fun u hu => Nat.zero_le _, ?_, rfl, h1⟩
  · obtain ⟨vl, e⟩ := ho u hu
    exact ⟨vl, _, 0, (fun h => by cases h), e⟩
  · rw [hA]
    refine ⟨rfl, fun p hp u hu hm => ?_, fun p hp _ => ?_⟩
    · simp [eff] at hm
    · have : p = 0 ∨ p = 1 ∨ p = 2 ∨ p = 3 ∨ p = 4 ∨ p = 5 := by omega
      rcases this with rfl | rfl | rfl | rfl | rfl | rfl <;> rfl
theorem bd_start {S : Nat → List Int} (hS : SOk S) (V : List Int) (k : Nat → Nat) (r : Nat → Bool) : Bd S 54 ⟨k, r, fun _ => false, V⟩ := by
  have h0 := hS.few 0 (by omega)
  have h1 := hS.few 1 (by omega)
  have h2 := hS.few 2 (by omega)
  left
  unfold restA rest
  simp only [Bool.false_eq_true, if_false]
  omega
theorem zero_of_gone {S : Nat → List Int} {s : SL} {V : List Int} (h : GI S (eff s) V) (hg : allGone s) (p : Nat) (hp : p < 6) : V.getD p 0 = 0 := by
  refine h.not p hp fun u hu hm => ?_
  obtain ⟨g0, g1, g2⟩ := hg
  have : eff s u = 0 := by
    unfold eff
    rcases three hu with rfl | rfl | rfl
    · rw [if_pos g0]
    · rw [if_pos g1]
    · rw [if_pos g2]
  rw [this] at hm
  simp at hm
theorem gone_stays {S : Nat → List Int} {s s' : SL} {t : Nat} (ht : t < 3) (hg : allGone s) (h : Nx S t s s') : s' = s := by
  have hn : s.n t = true := by
    obtain ⟨g0, g1, g2⟩ := hg
    rcases three ht with rfl | rfl | rfl
    · exact g0
    · exact g1
    · exact g2
  cases h with
  | gone h e => exact e
  | rel h _ _ _ => rw [hn] at h; cases h
  | take h _ _ _ => rw [hn] at h; cases h
  | stay h _ _ _ _ _ _ => rw [hn] at h; cases h
end
end Go.Proofs.Ytphnadchdhblpaa.LkR
