/-
  Package locker: a machine as one object, and what a step makes of its state.
-/
import Derived.Test.YtphnadchdhblpaaGreatLkA
namespace Go.Proofs.YtphnadchdhblpaaGreat.LkB
open Go.ChangeShapes Go.WideShapes Go.ChangeAt Go.RowKit
open PlainT BlkW LayS LayA CelS CelM CelP CelV CelN CelO CelF LabD LabR LabP LabS LabX CelLo RsA ObjA LkP SrtA LkA
set_option linter.unusedVariables false
set_option maxHeartbeats 1000000

/-- A lock's state: the ownership records in order, the words of those that are locked, whether the next one was found free, the word that was found. -/
structure LS where
  S : List Int
  ys : List Int
  rdy : Bool
  f : Int
def lsO (s : LS) : Nat := (s.S.getD s.ys.length 0).toNat
def lsX (s : LS) (V : List Int) : Int := V.getD (lsO s) 0
def lsSt (s : LS) : Int := if s.ys.length = s.S.length then 2 else if s.rdy = true then 1 else 0
def nxS (s : LS) (V : List Int) : LS := if s.ys.length = s.S.length then s else if s.rdy = true then (if lsX s V = s.f then ⟨s.S, s.ys ++ [s.f], false, s.f⟩ else ⟨s.S, s.ys, false, s.f⟩) else ⟨s.S, s.ys, decide (lsX s V % 64 = 0), lsX s V⟩
def lsP (t : Int) (s : LS) (V : List Int) : Int := if s.ys.length = s.S.length then lsX s V else if s.rdy = true then (if lsX s V = s.f then s.f / 64 * 64 + t + 1 else lsX s V) else lsX s V
def lsAc (t : Int) (s : LS) (V : List Int) : Int × Int × Int × Int × Int × Bool := if s.ys.length = s.S.length then (0, 0, 0, 0, 0, false) else if s.rdy = true then (if lsX s V = s.f then (3, 2, lsO s, lsX s V, s.f / 64 * 64 + t + 1, true) else (3, 2, lsO s, lsX s V, lsX s V, false)) else (1, 2, lsO s, lsX s V, lsX s V, true)
theorem lsAc_ex (t : Int) (s : LS) (V : List Int) : ∃ k1 k2 k3 k4 k5 d, lsAc t s V = (k1, k2, k3, k4, k5, d) := ⟨_, _, _, _, _, _, rfl⟩
theorem prod6 {a b c d e : Int} {f : Bool} {a' b' c' d' e' : Int} {f' : Bool} (h : (a, b, c, d, e, f) = (a', b', c', d', e', f')) : a = a' ∧ b = b' ∧ c = c' ∧ d = d' ∧ e = e' ∧ f = f' := by
  cases h
  exact ⟨rfl, rfl, rfl, rfl, rfl, rfl⟩
structure LOk (s : LS) : Prop where
  len : s.ys.length ≤ s.S.length
  few : s.S.length ≤ 1000
  inS : ∀ x ∈ s.S, 0 ≤ x ∧ x ≤ 5
  rf : s.rdy = true → 0 ≤ s.f ∧ s.f ≤ 1000000
/-- The words of the six ownership records. -/
def VOk (V : List Int) : Prop := V.length = 6 ∧ ∀ i, 0 ≤ V.getD i 0 ∧ V.getD i 0 ≤ 1000000
def lkM (g : Nat) (t : Int) (vl vo : Value) (s : LS) : Ob := joi (bx g TLk #[.int .i64 (lsSt s), .int .i64 t, vl, .int .u64 s.f, vo]) (joi (rd .i64 vl (s.S.drop s.ys.length)) (own .u64 TU vo s.ys))
theorem lsO_lt {s : LS} (h : LOk s) : lsO s < 6 := by
  unfold lsO
  rcases Nat.lt_or_ge s.ys.length s.S.length with h1 | h1
  · have := h.inS (s.S.getD s.ys.length 0) (by rw [List.getD_eq_getElem?_getD, List.getElem?_eq_getElem h1]; exact List.getElem_mem h1)
    omega
  · rw [List.getD_eq_getElem?_getD, List.getElem?_eq_none h1]
    decide
theorem ls_cons {s : LS} (h : LOk s) (hd : ¬ s.ys.length = s.S.length) : s.S.drop s.ys.length = (lsO s : Int) :: s.S.drop (s.ys.length + 1) ∧ s.S[s.ys.length]? = some (lsO s : Int) := by
  have hl : s.ys.length < s.S.length := by have := h.len; omega
  have h0 := h.inS (s.S[s.ys.length]'hl) (List.getElem_mem hl)
  have e : (lsO s : Int) = s.S[s.ys.length]'hl := by
    unfold lsO
    rw [List.getD_eq_getElem?_getD, List.getElem?_eq_getElem hl, Option.getD_some]
    omega
  exact ⟨by rw [e]; exact List.drop_eq_getElem_cons hl, by rw [e]; exact List.getElem?_eq_getElem hl⟩
section
variable {w0 w : World} {lo hi b rb g i : Nat} {q : Cfg} {A B : Int → List Int} {ex : List Ob} {t : Int} {vl vo : Value} {s : LS}
theorem upd_id {o : Nat} {x : Int} (hl : o < (A 2).length) (hx : (A 2).getD o 0 = x) : upd A 2 o x = A := upd_same hl hx
theorem x_step (h : Lo w0 lo hi b rb q A B ex w) (he : ex[i]? = some (lkM g t vl vo s)) (hs : LOk s) (hV : VOk (A 2)) (t0 : 0 ≤ t) (t1 : t < 16) {k1 k2 k3 k4 k5 : Int} {d : Bool} (hac : Hid (lsAc t s (A 2) = (k1, k2, k3, k4, k5, d))) :
    Calls Tryz.prog 18 #[.pointer (some ⟨g, 0, none⟩), .pointer (some ⟨b, 0, none⟩)] w fun e w' => e = .returned (accV k1 k2 k3 k4 k5 d) ∧ ∃ vl' vo', Lo w0 lo hi b rb q (upd A 2 (lsO s) (lsP t s (A 2))) B (ex.set i (lkM g t vl' vo' (nxS s (A 2)))) w' := by
  have hac := hac.out
  have hlen : i < ex.length := (List.getElem?_eq_some_iff.1 he).1
  have h3 := h.open3 he
  have ho := lsO_lt hs
  have hl : lsO s < (A 2).length := by rw [hV.1]; exact ho
  obtain ⟨x0, x1⟩ := hV.2 (lsO s)
  obtain ⟨x, hx⟩ : ∃ x, lsX s (A 2) = x := ⟨_, rfl⟩
  have hx' : (A 2).getD (lsO s) 0 = x := hx
  rw [hx'] at x0 x1
  unfold lsAc at hac
  unfold lsP nxS
  rw [hx] at hac ⊢
  by_cases hd : s.ys.length = s.S.length
  · rw [if_pos hd] at hac
    simp only [if_pos hd]
    obtain ⟨rfl, rfl, rfl, rfl, rfl, rfl⟩ := prod6 hac
    rw [upd_id hl hx']
    have h4 : Lo w0 lo hi b rb q A B (ex.set i nob ++ ([bx g TLk #[.int .i64 2, .int .i64 t, vl, .int .u64 s.f, vo]] ++ [rd .i64 vl (s.S.drop s.ys.length), own .u64 TU vo s.ys])) w := by
      rw [show (2 : Int) = lsSt s from (if_pos hd).symm]
      exact h3
    refine (lk_over h4.inX).mono ?_
    rintro e w' ⟨he', hL⟩
    have h5 := hL.outX
    rw [show (2 : Int) = lsSt s from (if_pos hd).symm] at h5
    exact ⟨he', vl, vo, Lo.close3 h5 hlen⟩
  · rw [if_neg hd] at hac
    simp only [if_neg hd]
    obtain ⟨hdr, hat⟩ := ls_cons hs hd
    have hr : RdR .i64 w vl (s.S.drop s.ys.length) := h3.isR 1 rfl
    rw [hdr] at hr h3
    obtain ⟨gl, ol, c, rfl, hc1, hc2, _⟩ := hr.cell (by simp)
    obtain ⟨n, hn⟩ : ∃ n, ((lsO s : Int) :: s.S.drop (s.ys.length + 1)).length = n := ⟨_, rfl⟩
    have hn1 : 1 ≤ n := by rw [← hn]; simp
    have hn2 : n = s.S.length - s.ys.length := by rw [← hn]; simp; have := hs.len; omega
    rw [hn] at h3 hc1
    have hlen2 := hs.len
    have hfew := hs.few
    cases hrd : s.rdy with
    | true =>
      obtain ⟨f0, f1⟩ := hs.rf hrd
      have hst : lsSt s = 1 := by unfold lsSt; rw [if_neg hd, if_pos hrd]
      rw [hrd, if_pos rfl] at hac
      simp only [if_true]
      rw [hst] at h3
      by_cases hxf : x = s.f
      · rw [if_pos hxf] at hac
        simp only [if_pos hxf]
        obtain ⟨rfl, rfl, rfl, rfl, rfl, rfl⟩ := prod6 hac
        have hx2 : (A 2).getD (lsO s) 0 = s.f := hx'.trans hxf
        rw [hxf]
        have hs2 : (n - 1 = 0 ∧ lsSt ⟨s.S, s.ys ++ [s.f], false, s.f⟩ = 2) ∨ (0 < n - 1 ∧ lsSt ⟨s.S, s.ys ++ [s.f], false, s.f⟩ = 0) := by
          unfold lsSt
          simp only [List.length_append, List.length_cons, List.length_nil]
          rcases Nat.lt_or_ge 1 n with h1 | h1
          · exact .inr ⟨by omega, by rw [if_neg (by omega)]; rfl⟩
          · exact .inl ⟨by omega, by rw [if_pos (by omega)]⟩
        refine (lk_swap_yes hl hx2 hn1 hc1 (by omega) f0 f1 t0 t1 rfl hs2 h3).mono ?_
        rintro e w' ⟨he', vl', vo', hL⟩
        refine ⟨he', vl', vo', ?_⟩
        have : s.S.drop (s.ys.length + 1) = (⟨s.S, s.ys ++ [s.f], false, s.f⟩ : LS).S.drop (⟨s.S, s.ys ++ [s.f], false, s.f⟩ : LS).ys.length := by simp
        rw [this] at hL
        exact Lo.close3 hL hlen
      · rw [if_neg hxf] at hac
        simp only [if_neg hxf]
        obtain ⟨rfl, rfl, rfl, rfl, rfl, rfl⟩ := prod6 hac
        refine (lk_swap_no hl hx' x0 (by omega) hn1 hc1 (by omega) f0 f1 t0 t1 rfl hxf h3).mono ?_
        rintro e w' ⟨he', hL⟩
        refine ⟨he', .slice (some ⟨gl, ol, none⟩) n c, vo, ?_⟩
        rw [← hdr] at hL
        have : (0 : Int) = lsSt ⟨s.S, s.ys, false, s.f⟩ := by unfold lsSt; rw [if_neg hd]; rfl
        rw [this] at hL
        exact Lo.close3 hL hlen
    | false =>
      have hst : lsSt s = 0 := by unfold lsSt; rw [if_neg hd, hrd]; rfl
      rw [hrd] at hac
      simp only [Bool.false_eq_true, if_false] at hac ⊢
      obtain ⟨rfl, rfl, rfl, rfl, rfl, rfl⟩ := prod6 hac
      rw [upd_id hl hx']
      rw [hst] at h3
      by_cases h64 : x % 64 = 0
      · refine (lk_look_free hl hx' x0 (by omega) hn1 rfl (by simp; omega) h3).mono ?_
        rintro e w' ⟨he', hL⟩
        refine ⟨he', .slice (some ⟨gl, ol, none⟩) n c, vo, ?_⟩
        rw [← hdr] at hL
        have : (1 : Int) = lsSt ⟨s.S, s.ys, decide (x % 64 = 0), x⟩ := by unfold lsSt; rw [if_neg hd, if_pos (by simp [h64])]
        rw [this] at hL
        exact Lo.close3 hL hlen
      · refine (lk_look_held hl hx' x0 (by omega) hn1 rfl (by simp; omega) h3).mono ?_
        rintro e w' ⟨he', hL⟩
        refine ⟨he', .slice (some ⟨gl, ol, none⟩) n c, vo, ?_⟩
        rw [← hdr] at hL
        have : (0 : Int) = lsSt ⟨s.S, s.ys, decide (x % 64 = 0), x⟩ := by unfold lsSt; rw [if_neg hd, if_neg (by simp [h64])]
        rw [this] at hL
        exact Lo.close3 hL hlen
theorem x_done (h : Lo w0 lo hi b rb q A B ex w) (he : ex[i]? = some (lkM g t vl vo s)) {D : Bool} (hd : Hid (decide (s.ys.length = s.S.length) = D)) : Calls Tryz.prog 14 #[.pointer (some ⟨g, 0, none⟩)] w fun e w' => e = .returned (.bool D) ∧ w = w' := by
  have e := lk_isdone (h.is i _ he).1
  have ed : (lsSt s == 2) = D := by
    rw [← hd.out]
    unfold lsSt
    by_cases h1 : s.ys.length = s.S.length
    · simp [h1]
    · rw [if_neg h1]
      split <;> simp [h1]
  rw [ed] at e
  exact e
theorem x_old (h : Lo w0 lo hi b rb q A B ex w) (he : ex[i]? = some (lkM g t vl vo s)) (hs : LOk s) : Calls Tryz.prog 17 #[.pointer (some ⟨g, 0, none⟩)] w fun e w' => ∃ Aa c, e = .returned (.slice Aa s.ys.length c) ∧ w'.ownsRow w.heap.size TU 1 (.slice Aa s.ys.length c) s.ys.length (s.ys.map (Value.int .u64)) ∧ Below w.heap.size w w' := by
  have h1 := h.is i _ he
  exact lk_old h1.1 (rdr_own h1.2.1.2.1) (by have := hs.len; have := hs.few; omega)
theorem x_new (h : Lo w0 lo hi b rb q A B ex w) (t : Int) (v : Value) (xs : List Int) (hr : RdR .i64 w v xs) (hl : xs.length ≤ 1000) : Calls Tryz.prog 11 #[.int .i64 t, v] w fun e w' => ∃ g vl, e = .returned (.pointer (some ⟨g, 0, none⟩)) ∧ Lo w0 lo hi b rb q A B (ex ++ [lkM g t vl (.slice none 0 0) ⟨srt xs, [], false, 0⟩]) w' := by
  have hst : ((srt xs).length = 0 ∧ lsSt ⟨srt xs, [], false, 0⟩ = 2) ∨ (0 < (srt xs).length ∧ lsSt ⟨srt xs, [], false, 0⟩ = 0) := by
    unfold lsSt
    rcases Nat.eq_zero_or_pos (srt xs).length with h0 | h0
    · exact .inl ⟨h0, by rw [if_pos (by simp [h0])]⟩
    · exact .inr ⟨h0, by rw [if_neg (by simp; omega)]; rfl⟩
  refine (lk_new h t v xs hr (by omega) hst).mono ?_
  rintro e w' ⟨g, vl, he, hL⟩
  refine ⟨g, vl, he, ?_⟩
  have h2 : Lo w0 lo hi b rb q A B (ex ++ [bx g TLk #[.int .i64 (lsSt ⟨srt xs, [], false, 0⟩), .int .i64 t, vl, .int .u64 0, .slice none 0 0], joi (rd .i64 vl (srt xs)) (own .u64 TU (.slice none 0 0) [])]) w' := Lo.joinR (rs := [bx g TLk #[.int .i64 (lsSt ⟨srt xs, [], false, 0⟩), .int .i64 t, vl, .int .u64 0, .slice none 0 0], rd .i64 vl (srt xs)]) hL 1 rfl
  exact Lo.joinR (rs := [bx g TLk #[.int .i64 (lsSt ⟨srt xs, [], false, 0⟩), .int .i64 t, vl, .int .u64 0, .slice none 0 0]]) h2 0 rfl
/-- A machine that releases. -/
def reM (g : Nat) (v1 v2 : Value) (xs ys : List Int) (k : Nat) : Ob := joi (bx g TRe #[v1, v2, .int .i64 k]) (joi (rd .i64 v1 xs) (rd .u64 v2 ys))
theorem y_new (h : Lo w0 lo hi b rb q A B ex w) (v1 v2 : Value) (xs ys : List Int) (hr1 : RdR .i64 w v1 xs) (hr2 : RdR .u64 w v2 ys) (hlen : xs.length = ys.length) (hl : xs.length ≤ 1000) : Calls Tryz.prog 21 #[v1, v2] w fun e w' => ∃ g A1 c1 A2 c2, e = .returned (.pointer (some ⟨g, 0, none⟩)) ∧ Lo w0 lo hi b rb q A B (ex ++ [reM g (.slice A1 xs.length c1) (.slice A2 ys.length c2) xs ys 0]) w' := by
  refine (re_new h v1 v2 xs ys hr1 hr2 hlen (by omega)).mono ?_
  rintro e w' ⟨g, A1, c1, A2, c2, he, hL⟩
  refine ⟨g, A1, c1, A2, c2, he, ?_⟩
  have h2 : Lo w0 lo hi b rb q A B (ex ++ [bx g TRe #[.slice A1 xs.length c1, .slice A2 ys.length c2, .int .i64 0], joi (rd .i64 (.slice A1 xs.length c1) xs) (rd .u64 (.slice A2 ys.length c2) ys)]) w' := Lo.joinR (rs := [bx g TRe #[.slice A1 xs.length c1, .slice A2 ys.length c2, .int .i64 0], rd .i64 (.slice A1 xs.length c1) xs]) hL 1 rfl
  exact Lo.joinR (rs := [bx g TRe #[.slice A1 xs.length c1, .slice A2 ys.length c2, .int .i64 0]]) h2 0 rfl
theorem y_step {v1 v2 : Value} {xs ys : List Int} {k : Nat} (h : Lo w0 lo hi b rb q A B ex w) (he : ex[i]? = some (reM g v1 v2 xs ys k)) (hV : VOk (A 2)) (hlen : xs.length = ys.length) (hl : xs.length ≤ 1000) {o : Nat} (ho : xs[k]? = some (o : Int)) (ho6 : o < 6) {v : Int} (hv : ys[k]? = some v) {x : Int} (hx : (A 2).getD o 0 = x) :
    Calls Tryz.prog 23 #[.pointer (some ⟨g, 0, none⟩), .pointer (some ⟨b, 0, none⟩)] w fun e w' => e = .returned (accV 2 2 o x v true) ∧ Lo w0 lo hi b rb q (upd A 2 o v) B (ex.set i (reM g v1 v2 xs ys (k + 1))) w' := by
  have hlen_ : i < ex.length := (List.getElem?_eq_some_iff.1 he).1
  have hk := (List.getElem?_eq_some_iff.1 ho).1
  have h3 := h.open3 he
  have r1 : RdR .i64 w v1 xs := h3.isR 1 rfl
  have r2 : RdR .u64 w v2 ys := h3.isR 2 rfl
  obtain ⟨g1, o1, c1, rfl, _⟩ := r1.cell (by omega)
  obtain ⟨g2, o2, c2, rfl, _⟩ := r2.cell (by omega)
  rw [← hlen] at h3 ⊢
  refine (re_store (by rw [hV.1]; exact ho6) hx hk (by omega) ho hv h3).mono ?_
  rintro e w' ⟨he', hL⟩
  exact ⟨he', Lo.close3 hL hlen_⟩
theorem y_over {v1 v2 : Value} {xs ys : List Int} (h : Lo w0 lo hi b rb q A B ex w) (he : ex[i]? = some (reM g v1 v2 xs ys xs.length)) (hlen : xs.length = ys.length) :
    Calls Tryz.prog 23 #[.pointer (some ⟨g, 0, none⟩), .pointer (some ⟨b, 0, none⟩)] w fun e w' => e = .returned (accV 0 0 0 0 0 false) ∧ Lo w0 lo hi b rb q A B (ex.set i (reM g v1 v2 xs ys xs.length)) w' := by
  have hlen_ : i < ex.length := (List.getElem?_eq_some_iff.1 he).1
  have h3 := h.open3 he
  have r1 : RdR .i64 w v1 xs := h3.isR 1 rfl
  have r2 : RdR .u64 w v2 ys := h3.isR 2 rfl
  obtain ⟨⟨p1, c1, rfl, _⟩, _⟩ := r1
  obtain ⟨⟨p2, c2, rfl, _⟩, _⟩ := r2
  rw [← hlen] at h3 ⊢
  refine (re_over (k := 0) h3).mono ?_
  rintro e w' ⟨he', hL⟩
  exact ⟨he', Lo.close3 hL hlen_⟩
/-- The image of the program's cells. -/
theorem lo_image (h : Lo w0 lo hi b rb q A B ex w) (h3 : (A 3).length = 1) (h4 : (A 4).length = 1) (h5 : (A 5).length = 1) : Calls Tryz.prog 27 #[.pointer (some ⟨b, 0, none⟩)] w fun e w' => ∃ c t s vd vo vl vh vn, e = .returned (CelI.imgV vd vo c t s vl vh vn) ∧ w'.ownsRow w.heap.size TU 1 vo (A 2).length ((A 2).map (Value.int .u64)) ∧ Lo w0 lo hi b rb q A B ex w' := by
  obtain ⟨m1, m2, h1, h2, hm, ho⟩ := h.duo
  refine (CelY.m_image lo m1 w b A h1 _ _ _ (one_get h3) (one_get h4) (one_get h5)).mono ?_
  rintro e w' ⟨vd, vo, vl, vh, vn, he, ⟨_, hvo, _⟩, hI, hS⟩
  have := Duo.left h2 hm ho hI hS
  exact ⟨_, _, _, vd, vo, vl, vh, vn, he, hvo, h.cellsTo this.1 this.2⟩
theorem fld_orec (vd vo vl vh vn : Value) (c t s : Int) (wx : World) : (Instr.field 66 (.agg #[vd, vo, .int .u64 c, .int .u64 t, .int .u64 s, vl, vh, vn]) 1).run Tryz.prog wx = .ok vo wx := by kernel_rfl
theorem lo_image6 (h : Lo w0 lo hi b rb q A B ex w) {V : List Int} (hV : A 2 = V) (h6 : V.length = 6) (hs : (A 3).length = 1 ∧ (A 4).length = 1 ∧ (A 5).length = 1) : Calls Tryz.prog 27 #[.pointer (some ⟨b, 0, none⟩)] w fun e w' => ∃ c t s vd gi oi ci vl vh vn, e = .returned (.agg #[vd, .slice (some ⟨gi, oi, none⟩) 6 ci, .int .u64 c, .int .u64 t, .int .u64 s, vl, vh, vn]) ∧ (∀ j x, V[j]? = some x → w'.cell? ⟨gi, oi + j, none⟩ = some (.int .u64 x)) ∧ w.heap.size ≤ gi ∧ gi < w'.heap.size ∧ Lo w0 lo hi b rb q A B ex w' := by
  refine (lo_image h hs.1 hs.2.1 hs.2.2).mono ?_
  rintro e w' ⟨c, t, s, vd, vo, vl, vh, vn, he, hvo, hL⟩
  rw [hV] at hvo
  obtain ⟨gi, oi, ci, rfl, _, _, hc⟩ := (rdr_own hvo).cell (by omega)
  rw [h6] at he hvo
  have hg := World.ownsRow.lt hvo gi rfl
  exact ⟨c, t, s, vd, gi, oi, ci, vl, vh, vn, he, hc, hg.1, hg.2, hL⟩
end
end Go.Proofs.YtphnadchdhblpaaGreat.LkB
