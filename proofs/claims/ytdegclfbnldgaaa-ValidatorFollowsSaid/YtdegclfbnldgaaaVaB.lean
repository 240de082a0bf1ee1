/-
  Package validator: a machine as one object, what a step makes of its state, and what a state says of the words that were read.
-/
import Derived.Test.YtdegclfbnldgaaaVaA
namespace Go.Proofs.Ytdegclfbnldgaaa.VaB
open Go.ChangeShapes Go.WideShapes Go.ChangeAt Go.RowKit
open PlainT BlkW LayS LayA CelS CelM CelP CelV CelN CelO CelF LabD LabR LabP LabS LabX CelLo RsA ObjA ClnA VaA
set_option linter.unusedVariables false
set_option maxHeartbeats 1000000

/-- What record the k-th step loads, what word it finds, and what the step makes of the state. -/
def cO (xs : List Int) (k : Nat) : Nat := (xs.getD k 0).toNat
def cX (xs : List Int) (k : Nat) (V : List Int) : Int := V.getD (cO xs k) 0
def dn (f : Bool) (xs : List Int) (k : Nat) : Bool := f || decide (k = xs.length)
def nF (r : Int) (f : Bool) (xs : List Int) (k : Nat) (V : List Int) : Bool := if dn f xs k = true then f else decide (r < cX xs k V / 64)
def nK (f : Bool) (xs : List Int) (k : Nat) : Nat := if dn f xs k = true then k else k + 1
def acS (f : Bool) (xs : List Int) (k : Nat) (V : List Int) : Int × Int × Int × Int × Int × Bool := if dn f xs k = true then (0, 0, 0, 0, 0, false) else (1, 2, cO xs k, cX xs k V, cX xs k V, true)
theorem acS_ex (f : Bool) (xs : List Int) (k : Nat) (V : List Int) : ∃ k1 k2 k3 k4 k5 d, acS f xs k V = (k1, k2, k3, k4, k5, d) := ⟨_, _, _, _, _, _, rfl⟩
theorem prod6 {a b c d e : Int} {f : Bool} {a' b' c' d' e' : Int} {f' : Bool} (h : (a, b, c, d, e, f) = (a', b', c', d', e', f')) : a = a' ∧ b = b' ∧ c = c' ∧ d = d' ∧ e = e' ∧ f = f' := by
  cases h
  exact ⟨rfl, rfl, rfl, rfl, rfl, rfl⟩
/-- Lists of records. -/
structure LOk (xs : List Int) : Prop where
  few : xs.length ≤ 12
  inS : ∀ x ∈ xs, 0 ≤ x ∧ x ≤ 5
theorem LOk.at_ {xs : List Int} (h : LOk xs) {k : Nat} (hk : k < xs.length) : xs[k]? = some (cO xs k : Int) ∧ cO xs k < 6 := by
  have h0 := h.inS (xs[k]'hk) (List.getElem_mem hk)
  have e : xs.getD k 0 = xs[k]'hk := by rw [List.getD_eq_getElem?_getD, List.getElem?_eq_getElem hk]; rfl
  unfold cO
  rw [e, List.getElem?_eq_getElem hk]
  exact ⟨by congr 1; omega, by omega⟩
theorem dn_false {f : Bool} {xs : List Int} {k : Nat} (h : dn f xs k = false) : f = false ∧ ¬ k = xs.length := by
  unfold dn at h
  cases f
  · exact ⟨rfl, by simpa using h⟩
  · cases h
/-- The state after i steps: k of the records are read. -/
def Pr (f : Bool) (xs : List Int) (k i : Nat) : Prop := k ≤ xs.length ∧ (f = false → k = min i xs.length)
theorem pr_next {r : Int} {f : Bool} {xs : List Int} {k i : Nat} {V : List Int} (h : Pr f xs k i) : Pr (nF r f xs k V) xs (nK f xs k) (i + 1) := by
  obtain ⟨h1, h2⟩ := h
  unfold nF nK Pr
  cases hd : dn f xs k with
  | true =>
    simp only [if_true]
    refine ⟨h1, fun hf => ?_⟩
    have h3 := h2 hf
    subst hf
    have h4 : k = xs.length := by simpa [dn] using hd
    omega
  | false =>
    obtain ⟨rfl, hk⟩ := dn_false hd
    have h3 := h2 rfl
    simp only [Bool.false_eq_true, if_false]
    exact ⟨by omega, fun _ => by omega⟩
theorem pr_end {f : Bool} {xs : List Int} {k i : Nat} (h : Pr f xs k i) (hx : xs.length ≤ i) : dn f xs k = true := by
  unfold dn
  cases f with
  | true => rfl
  | false =>
    have := h.2 rfl
    simp
    omega
theorem dn_drop {f : Bool} {xs : List Int} {k : Nat} (hk : k ≤ xs.length) : (f || decide ((xs.drop k).length = 0)) = dn f xs k := by
  unfold dn
  congr 1
  rw [List.length_drop]
  exact decide_eq_decide.2 (by omega)
/-- Words of six records up to a bound. -/
def VB (m : Int) (V : List Int) : Prop := V.length = 6 ∧ ∀ i, 0 ≤ V.getD i 0 ∧ V.getD i 0 ≤ m
theorem vb_ok {m : Int} {V : List Int} (h : VB m V) (hm : m ≤ 1000000) : VOk V := ⟨h.1, fun i => by have := h.2 i; omega⟩
theorem vb_le {m m' : Int} {V : List Int} (h : VB m V) (hm : m ≤ m') : VB m' V := ⟨h.1, fun i => by have := h.2 i; omega⟩
theorem vb_zero {m : Int} (hm : 0 ≤ m) : VB m [0, 0, 0, 0, 0, 0] := by
  refine ⟨rfl, fun i => ?_⟩
  have : i = 0 ∨ i = 1 ∨ i = 2 ∨ i = 3 ∨ i = 4 ∨ i = 5 ∨ 6 ≤ i := by omega
  rcases this with rfl | rfl | rfl | rfl | rfl | rfl | h
  all_goals first
    | exact ⟨Int.le_refl 0, hm⟩
    | (rw [List.getD_eq_getElem?_getD, List.getElem?_eq_none (by exact h)]; exact ⟨Int.le_refl 0, hm⟩)
theorem getD_setV {V : List Int} {o i : Nat} {x : Int} (ho : o < V.length) : (V.set o x).getD i 0 = if i = o then x else V.getD i 0 := by
  rw [List.getD_eq_getElem?_getD, List.getElem?_set]
  by_cases e : o = i
  · subst e
    rw [if_pos rfl, if_pos ho, if_pos rfl]
    rfl
  · rw [if_neg e, if_neg (Ne.symm e), ← List.getD_eq_getElem?_getD]
theorem vb_set {m : Int} {V : List Int} (h : VB m V) {o : Nat} (ho : o < 6) {x : Int} (x0 : 0 ≤ x) (x1 : x ≤ m) : VB m (V.set o x) := by
  refine ⟨by rw [List.length_set]; exact h.1, fun i => ?_⟩
  rw [getD_setV (by rw [h.1]; exact ho)]
  split
  · exact ⟨x0, x1⟩
  · exact h.2 i
/-- What a search from behind has found: the first record before which all are fine, from j on. -/
def Bd (r : Int) (xs : List Int) (V : List Int) (j bad : Nat) : Prop := j ≤ bad ∧ bad ≤ xs.length ∧ (∀ t, j ≤ t → t < bad → cX xs t V / 64 ≤ r) ∧ (bad < xs.length → r < cX xs bad V / 64)
theorem bd_start (r : Int) (xs V : List Int) : Bd r xs V xs.length xs.length := ⟨Nat.le_refl _, Nat.le_refl _, fun t h1 h2 => absurd h2 (by omega), fun h => absurd h (by omega)⟩
theorem bd_bad {r : Int} {xs V : List Int} {m bad : Nat} (h : Bd r xs V (m + 1) bad) (hF : decide (r < cX xs m V / 64) = true) : Bd r xs V m m := by
  obtain ⟨h1, h2, h3, h4⟩ := h
  exact ⟨Nat.le_refl _, by omega, fun t a c => absurd c (by omega), fun _ => of_decide_eq_true hF⟩
theorem bd_fine {r : Int} {xs V : List Int} {m bad : Nat} (h : Bd r xs V (m + 1) bad) (hF : decide (r < cX xs m V / 64) = false) : Bd r xs V m bad := by
  obtain ⟨h1, h2, h3, h4⟩ := h
  have hm : ¬ r < cX xs m V / 64 := of_decide_eq_false hF
  refine ⟨by omega, h2, fun t a c => ?_, h4⟩
  rcases Nat.lt_or_ge m t with e | e
  · exact h3 t e c
  · have : t = m := by omega
    subst this
    omega
/-- The validation's state against what the search has found. -/
def Cv (f : Bool) (k bad n : Nat) : Prop := k ≤ n ∧ (f = false → k ≤ bad) ∧ (f = true → k = bad + 1 ∧ bad < n)
theorem cv_next {r : Int} {xs V : List Int} {k bad : Nat} (hb : Bd r xs V 0 bad) (h : Cv false k bad xs.length) (hk : k < xs.length) {F : Bool} (hF : decide (r < cX xs k V / 64) = F) : Cv F (k + 1) bad xs.length := by
  obtain ⟨h1, h2, h3⟩ := h
  obtain ⟨b1, b2, b3, b4⟩ := hb
  have hkb := h2 rfl
  subst hF
  by_cases hx : r < cX xs k V / 64
  · have e : k = bad := by
      rcases Nat.lt_or_ge k bad with c | c
      · have := b3 k (Nat.zero_le _) c
        omega
      · omega
    subst e
    refine ⟨hk, fun e => ?_, fun _ => ⟨rfl, hk⟩⟩
    rw [decide_eq_true hx] at e
    cases e
  · refine ⟨hk, fun _ => ?_, fun e => ?_⟩
    · rcases Nat.lt_or_ge k bad with c | c
      · omega
      · have e : k = bad := by omega
        subst e
        exact absurd (b4 hk) hx
    · rw [decide_eq_false hx] at e
      cases e
theorem cv_cases {r : Int} {xs V : List Int} {k bad : Nat} {f : Bool} (hb : Bd r xs V 0 bad) (h : Cv f k bad xs.length) (hd : dn f xs k = true) : (f = true ∧ k = bad + 1 ∧ bad < xs.length) ∨ (f = false ∧ k = xs.length ∧ bad = xs.length) := by
  obtain ⟨h1, h2, h3⟩ := h
  obtain ⟨b1, b2, _, _⟩ := hb
  cases f with
  | true => exact .inl ⟨rfl, h3 rfl⟩
  | false =>
    have e := h2 rfl
    have e2 : k = xs.length := by simpa [dn] using hd
    exact .inr ⟨rfl, e2, by omega⟩
/-- Versions only grow; what was read so far was fine from the beginning on. -/
def Gr (V0 V : List Int) : Prop := ∀ p, V0.getD p 0 / 64 ≤ V.getD p 0 / 64
theorem gr_set {V0 V : List Int} (h : Gr V0 V) {o : Nat} (ho : o < V.length) : Gr V0 (V.set o ((V.getD o 0 / 64 + 1) * 64)) := fun p => by
  rw [getD_setV ho]
  split
  · rename_i e
    subst e
    have := h p
    omega
  · exact h p
def FnOk (r : Int) (f : Bool) (xs : List Int) (V0 : List Int) (k : Nat) : Prop := f = false → ∀ t, t < k → cX xs t V0 / 64 ≤ r
theorem fn_next {r : Int} {f : Bool} {xs V0 V : List Int} {k : Nat} (h : FnOk r f xs V0 k) (hg : Gr V0 V) : FnOk r (nF r f xs k V) xs V0 (nK f xs k) := by
  unfold nF nK
  cases hd : dn f xs k with
  | true =>
    simp only [if_true]
    exact h
  | false =>
    obtain ⟨rfl, _⟩ := dn_false hd
    simp only [Bool.false_eq_true, if_false]
    intro hF t ht
    rcases Nat.lt_or_ge t k with c | c
    · exact h rfl t c
    · have e : t = k := by omega
      subst e
      have h1 := hg (cO xs t)
      have h2 : ¬ r < cX xs t V / 64 := of_decide_eq_false hF
      unfold cX at h2 ⊢
      omega
def ckM (g : Nat) (r : Int) (vl : Value) (f : Bool) (L : List Int) : Ob := joi (bx g TCk #[vl, .int .i64 r, .bool f]) (rd .i64 vl L)
def qcM (g : Nat) (r : Int) (v : Value) (f : Bool) (xs : List Int) (k : Nat) : Ob := joi (bx g TQc #[v, .int .i64 r, .int .i64 k, .bool f]) (rd .i64 v xs)
theorem Lo.open2 {w0 w : World} {lo hi b rb : Nat} {q : Cfg} {A B : Int → List Int} {ex : List Ob} {i : Nat} {o1 o2 : Ob} (h : Lo w0 lo hi b rb q A B ex w) (he : ex[i]? = some (joi o1 o2)) : Lo w0 lo hi b rb q A B (ex.set i nob ++ [o1, o2]) w := by
  have h1 := h.take i he
  exact h1.partR 0 rfl
theorem Lo.close2 {w0 w : World} {lo hi b rb : Nat} {q : Cfg} {A B : Int → List Int} {ex : List Ob} {i : Nat} {o1 o2 : Ob} (h : Lo w0 lo hi b rb q A B (ex.set i nob ++ [o1, o2]) w) (hi_ : i < ex.length) : Lo w0 lo hi b rb q A B (ex.set i (joi o1 o2)) w := by
  have h1 : Lo w0 lo hi b rb q A B (ex.set i nob ++ [joi o1 o2]) w := Lo.joinR (rs := [o1]) h 0 rfl
  exact h1.give hi_
theorem set_id {ex : List Ob} {i : Nat} {o : Ob} (he : ex[i]? = some o) : ex.set i o = ex := by
  apply List.ext_getElem?
  intro j
  by_cases e : i = j
  · subst e
    rw [List.getElem?_set_self (List.getElem?_eq_some_iff.1 he).1, he]
  · rw [List.getElem?_set_ne e]
section
variable {w0 w : World} {lo hi b rb g i k : Nat} {q : Cfg} {A B : Int → List Int} {ex : List Ob} {r : Int} {vl v : Value} {f : Bool} {xs L : List Int}
theorem x_over (h : Lo w0 lo hi b rb q A B ex w) (he : ex[i]? = some (ckM g r vl f L)) (hd : (f || decide (L.length = 0)) = true) : Calls Try.prog 38 #[.pointer (some ⟨g, 0, none⟩), .pointer (some ⟨b, 0, none⟩)] w fun e w' => e = .returned (accV 0 0 0 0 0 false) ∧ Lo w0 lo hi b rb q A B ex w' := by
  have hlen : i < ex.length := (List.getElem?_eq_some_iff.1 he).1
  have h2 := Lo.open2 h he
  have hr : RdR .i64 w vl L := h2.isR 1 rfl
  obtain ⟨⟨p, c, rfl, _⟩, _⟩ := hr
  have h3 : Lo w0 lo hi b rb q A B (ex.set i nob ++ ([bx g TCk #[.slice p L.length c, .int .i64 r, .bool f]] ++ [rd .i64 (.slice p L.length c) L])) w := h2
  refine (ck_over hd h3.inX).mono ?_
  rintro e w' ⟨he', hL⟩
  have h5 : Lo w0 lo hi b rb q A B (ex.set i (ckM g r (.slice p L.length c) f L)) w' := Lo.close2 hL.outX hlen
  rw [set_id he] at h5
  exact ⟨he', h5⟩
theorem x_done (h : Lo w0 lo hi b rb q A B ex w) (he : ex[i]? = some (ckM g r vl f L)) {D : Bool} (hd : Hid ((f || decide (L.length = 0)) = D)) : Calls Try.prog 35 #[.pointer (some ⟨g, 0, none⟩)] w fun e w' => e = .returned (.bool D) ∧ ∃ n, w' = w.drewN n := by
  obtain ⟨M, ⟨⟨p, c, rfl, _⟩, _⟩, _⟩ := h.is i _ he
  exact ck_done M hd.out
theorem x_doneL (h : Lo w0 lo hi b rb q A B ex w) (he : ex[i]? = some (ckM g r vl f (xs.drop k))) (hk : k ≤ xs.length) {D : Bool} (hd : Hid (dn f xs k = D)) : Calls Try.prog 35 #[.pointer (some ⟨g, 0, none⟩)] w fun e w' => e = .returned (.bool D) ∧ Lo w0 lo hi b rb q A B ex w' :=
  (x_done h he (Lib.hid ((dn_drop hk).trans hd.out))).mono fun e w' ⟨he', n, hw⟩ => ⟨he', by rw [hw]; exact h.drewN n⟩
theorem x_failed (h : Lo w0 lo hi b rb q A B ex w) (he : ex[i]? = some (ckM g r vl f L)) : Calls Try.prog 37 #[.pointer (some ⟨g, 0, none⟩)] w fun e w' => e = .returned (.bool f) ∧ w = w' := ck_failed (h.is i _ he).1
theorem x_go (h : Lo w0 lo hi b rb q A B ex w) (he : ex[i]? = some (ckM g r vl false (xs.drop k))) (hx : LOk xs) (hk : k < xs.length) (hV : VOk (A 2)) {F : Bool} (hF : decide (r < cX xs k (A 2) / 64) = F) : Calls Try.prog 38 #[.pointer (some ⟨g, 0, none⟩), .pointer (some ⟨b, 0, none⟩)] w fun e w' => e = .returned (accV 1 2 (cO xs k) (cX xs k (A 2)) (cX xs k (A 2)) true) ∧ ∃ vl', Lo w0 lo hi b rb q A B (ex.set i (ckM g r vl' F (xs.drop (k + 1)))) w' := by
  have hlen : i < ex.length := (List.getElem?_eq_some_iff.1 he).1
  obtain ⟨hat, ho6⟩ := hx.at_ hk
  have hdr : xs.drop k = (cO xs k : Int) :: xs.drop (k + 1) := by
    have e : xs[k]'hk = (cO xs k : Int) := by
      rw [List.getElem?_eq_getElem hk] at hat
      injection hat
    rw [← e]
    exact List.drop_eq_getElem_cons hk
  have h2 := Lo.open2 h he
  have hr : RdR .i64 w vl (xs.drop k) := h2.isR 1 rfl
  rw [hdr] at hr h2
  obtain ⟨gl, ol, c, rfl, hc1, hc2, _⟩ := hr.cell (by simp)
  obtain ⟨n, hn⟩ : ∃ n, ((cO xs k : Int) :: xs.drop (k + 1)).length = n := ⟨_, rfl⟩
  have hn1 : 1 ≤ n := by rw [← hn]; simp
  rw [hn] at h2 hc1
  obtain ⟨x0, x1⟩ := hV.2 (cO xs k)
  refine (ck_step hn1 hc1 (by rw [hV.1]; exact ho6) rfl x0 (by omega) rfl hF h2).mono ?_
  rintro e w' ⟨he', vl', hL⟩
  exact ⟨he', vl', Lo.close2 hL hlen⟩
theorem x_step (h : Lo w0 lo hi b rb q A B ex w) (he : ex[i]? = some (ckM g r vl f (xs.drop k))) (hx : LOk xs) (hk : k ≤ xs.length) (hV : VOk (A 2)) {k1 k2 k3 k4 k5 : Int} {d : Bool} (hac0 : Hid (acS f xs k (A 2) = (k1, k2, k3, k4, k5, d))) {f' : Bool} {k' : Nat} (hf0 : Hid (nF r f xs k (A 2) = f')) (hk0 : Hid (nK f xs k = k')) : Calls Try.prog 38 #[.pointer (some ⟨g, 0, none⟩), .pointer (some ⟨b, 0, none⟩)] w fun e w' => e = .returned (accV k1 k2 k3 k4 k5 d) ∧ ∃ vl', Lo w0 lo hi b rb q A B (ex.set i (ckM g r vl' f' (xs.drop k'))) w' := by
  have hac := hac0.out
  have hf := hf0.out
  have hk' := hk0.out
  clear hac0 hf0 hk0
  unfold acS at hac
  unfold nF at hf
  unfold nK at hk'
  cases hd : dn f xs k with
  | true =>
    rw [hd, if_pos rfl] at hac hf hk'
    obtain ⟨rfl, rfl, rfl, rfl, rfl, rfl⟩ := prod6 hac
    subst hf hk'
    refine (x_over h he ?_).mono fun e w' ⟨he', hL⟩ => ⟨he', vl, by rw [set_id he]; exact hL⟩
    rw [← hd]
    unfold dn
    congr 1
    rw [List.length_drop]
    exact decide_eq_decide.2 (by omega)
  | false =>
    rw [hd, if_neg (by decide)] at hac hf hk'
    obtain ⟨rfl, hne⟩ := dn_false hd
    obtain ⟨rfl, rfl, rfl, rfl, rfl, rfl⟩ := prod6 hac
    subst hk'
    exact x_go h he hx (by omega) hV hf
theorem x_new (h : Lo w0 lo hi b rb q A B ex w) (v : Value) (r : Int) (xs : List Int) (hr : RdR .i64 w v xs) (hl : xs.length ≤ 12) : Calls Try.prog 32 #[v, .int .i64 r] w fun e w' => ∃ g vl, e = .returned (.pointer (some ⟨g, 0, none⟩)) ∧ Lo w0 lo hi b rb q A B (ex ++ [ckM g r vl false (xs.drop 0)]) w' := by
  refine (ck_new h v r xs hr (by omega)).mono ?_
  rintro e w' ⟨g, p, c, he, hL⟩
  refine ⟨g, .slice p xs.length c, he, ?_⟩
  exact Lo.joinR (rs := [bx g TCk #[.slice p xs.length c, .int .i64 r, .bool false]]) hL 0 rfl
/-! The reference's machine. -/
theorem y_done (h : Lo w0 lo hi b rb q A B ex w) (he : ex[i]? = some (qcM g r v f xs k)) {D : Bool} (hd : Hid (dn f xs k = D)) : Calls Try.prog 36 #[.pointer (some ⟨g, 0, none⟩)] w fun e w' => e = .returned (.bool D) ∧ ∃ n, w' = w.drewN n := by
  obtain ⟨M, ⟨⟨p, c, rfl, _⟩, _⟩, _⟩ := h.is i _ he
  exact qc_done M hd.out
theorem y_doneL (h : Lo w0 lo hi b rb q A B ex w) (he : ex[i]? = some (qcM g r v f xs k)) {D : Bool} (hd : Hid (dn f xs k = D)) : Calls Try.prog 36 #[.pointer (some ⟨g, 0, none⟩)] w fun e w' => e = .returned (.bool D) ∧ Lo w0 lo hi b rb q A B ex w' :=
  (y_done h he hd).mono fun e w' ⟨he', n, hw⟩ => ⟨he', by rw [hw]; exact h.drewN n⟩
theorem y_cell (h : Lo w0 lo hi b rb q A B ex w) (he : ex[i]? = some (qcM g r v f xs k)) : w.cell? ⟨g, 3, none⟩ = some (.bool f) := by
  obtain ⟨M, _, _⟩ := h.is i _ he
  exact M.cell 3
theorem y_step (h : Lo w0 lo hi b rb q A B ex w) (he : ex[i]? = some (qcM g r v f xs k)) (hx : LOk xs) (hk : k ≤ xs.length) (hV : VOk (B 2)) {k1 k2 k3 k4 k5 : Int} {d : Bool} (hac0 : Hid (acS f xs k (B 2) = (k1, k2, k3, k4, k5, d))) {f' : Bool} {k' : Nat} (hf0 : Hid (nF r f xs k (B 2) = f')) (hk0 : Hid (nK f xs k = k')) : Calls Try.prog 39 #[.pointer (some ⟨g, 0, none⟩), .pointer (some ⟨rb, 0, none⟩)] w fun e w' => e = .returned (accV k1 k2 k3 k4 k5 d) ∧ Lo w0 lo hi b rb q A B (ex.set i (qcM g r v f' xs k')) w' := by
  have hac := hac0.out
  have hf := hf0.out
  have hk' := hk0.out
  clear hac0 hf0 hk0
  have hlen : i < ex.length := (List.getElem?_eq_some_iff.1 he).1
  have h2 := Lo.open2 h he
  have hr : RdR .i64 w v xs := h2.isR 1 rfl
  unfold acS at hac
  unfold nF at hf
  unfold nK at hk'
  cases hd : dn f xs k with
  | true =>
    rw [hd, if_pos rfl] at hac hf hk'
    obtain ⟨rfl, rfl, rfl, rfl, rfl, rfl⟩ := prod6 hac
    subst hf hk'
    obtain ⟨⟨p, c, rfl, _⟩, _⟩ := hr
    have h3 : Lo w0 lo hi b rb q A B (ex.set i nob ++ ([bx g TQc #[.slice p xs.length c, .int .i64 r, .int .i64 k, .bool f]] ++ [rd .i64 (.slice p xs.length c) xs])) w := h2
    refine (qc_over hd h3.inX).mono ?_
    rintro e w' ⟨he', hL⟩
    exact ⟨he', Lo.close2 hL.outX hlen⟩
  | false =>
    rw [hd, if_neg (by decide)] at hac hf hk'
    obtain ⟨rfl, hne⟩ := dn_false hd
    obtain ⟨rfl, rfl, rfl, rfl, rfl, rfl⟩ := prod6 hac
    subst hk'
    have hk2 : k < xs.length := by omega
    obtain ⟨hat, ho6⟩ := hx.at_ hk2
    obtain ⟨gl, ol, c, rfl, hc1, hc2, _⟩ := hr.cell (by omega)
    obtain ⟨x0, x1⟩ := hV.2 (cO xs k)
    have hfew := hx.few
    refine (qc_step hk2 (by omega) (by rw [hV.1]; exact ho6) rfl x0 (by omega) rfl hf hat h2).mono ?_
    rintro e w' ⟨he', hL⟩
    exact ⟨he', Lo.close2 hL hlen⟩
theorem y_new {p : Option Addr} {c : Nat} (h : Lo w0 lo hi b rb q A B (ex ++ [rd .i64 (.slice p xs.length c) xs]) w) : Calls Try.prog 34 #[.slice p xs.length c, .int .i64 r] w fun e w' => ∃ g, e = .returned (.pointer (some ⟨g, 0, none⟩)) ∧ Lo w0 lo hi b rb q A B (ex ++ [qcM g r (.slice p xs.length c) false xs 0]) w' := by
  refine (qc_new h).mono ?_
  rintro e w' ⟨g, he, hL⟩
  refine ⟨g, he, ?_⟩
  rw [List.append_assoc] at hL
  have h2 : Lo w0 lo hi b rb q A B (ex ++ [bx g TQc #[.slice p xs.length c, .int .i64 r, .int .i64 0, .bool false], rd .i64 (.slice p xs.length c) xs]) w' := hL.perm (List.Perm.append_left _ (List.Perm.swap ..))
  exact Lo.joinR (rs := [bx g TQc #[.slice p xs.length c, .int .i64 r, .int .i64 0, .bool false]]) h2 0 rfl
theorem lo_setI (h : Lo w0 lo hi b rb q A A ex w) (u : Int) (u0 : 0 ≤ u) (hu : u.toNat < (A 2).length) (x : Int) : Calls Try.prog 18 #[pairV b rb, .int .i64 2, .int .i64 u, .int .u64 x] w fun e w' => e = .returned (.bool true) ∧ Lo w0 lo hi b rb q (upd A 2 u.toNat x) (upd A 2 u.toNat x) ex w' := by
  have := lo_set h 2 (by decide) u.toNat hu x
  rwa [Int.toNat_of_nonneg u0] at this
/-- The reference's own row of records. -/
theorem orec_row (h : Lo w0 lo hi b rb q A B ex w) (h0 : 0 < (B 2).length) : ∃ g c : Nat, w.cell? ⟨rb, 14, none⟩ = some (.slice (some ⟨g, 0, none⟩) (B 2).length c) ∧ ∀ j, j < (B 2).length → w.cell? ⟨g, j, none⟩ = some (.int .u64 ((B 2).getD j 0)) := by
  obtain ⟨m1, m2, h1, ⟨V, X, c, t, s, h2⟩, hm, ho⟩ := h.duo
  have ha := h2.a2
  rw [ha] at h0 ⊢
  have ho := h2.r.own 1 (by decide)
  have hc := h2.r.bx.cell 14
  obtain ⟨g, cap, cur, hV, hB, hh, hlt, hcs⟩ := own_cells ho h0
  refine ⟨g, cap, by rw [hc, ← hV]; rfl, fun j hj => ?_⟩
  rw [hcs j (by omega)]
  unfold us
  rw [List.getElem?_map, List.getD_eq_getElem?_getD, List.getElem?_eq_getElem hj]
  rfl
end
end Go.Proofs.Ytdegclfbnldgaaa.VaB
