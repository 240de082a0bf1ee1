/-
  Layer 18's machines as objects among others: what each call makes of them, in any state; images and lists of free blocks.
-/
import Derived.Test.YtpjbmbipkmpkhaaLmB
import Derived.Test.YtpjbmbipkmpkhaaLmC
import Derived.Test.YtpjbmbipkmpkhaaLmE
import Derived.Test.YtpjbmbipkmpkhaaFreC
namespace Go.Proofs.Ytpjbmbipkmpkhaa.LmF
open Go.ChangeShapes Go.WideShapes Go.ChangeAt Go.RowKit
open PlainT BlkW LayS LayA LayF LayH LayK CelS CelM CelP CelV CelN CelO CelF CelI CelQ LabD LabR LabP LabS LabX LabN CelLo RsA ObjA ClnA FreP FreQ FreV FreC FreI FreA FreB LmP LmA LmB LmC LmD LmE
set_option linter.unusedVariables false
set_option maxHeartbeats 1000000
set_option maxRecDepth 100000

theorem set_id {ex : List Ob} {i : Nat} {o : Ob} (he : ex[i]? = some o) : ex.set i o = ex := by
  apply List.ext_getElem?
  intro j
  by_cases e : i = j
  · subst e
    rw [List.getElem?_set_self (List.getElem?_eq_some_iff.1 he).1, he]
  · rw [List.getElem?_set_ne e]
theorem rdb_of {ex : List Ob} {i j : Nat} {o : Ob} {v : Value} {xs : List Int} (hj : ex[j]? = some o) (hij : i ≠ j) (ho : ∀ W, o.is W → RdR .i64 W v xs) : Rdb (ex.set i nob) v xs := ⟨j, o, by rw [List.getElem?_set_ne hij]; exact hj, ho⟩
section
variable {w0 w : World} {lo hi b rb g y i n : Nat} {q : Cfg} {A B : Int → List Int} {ex : List Ob} {o0 o1 o2 o3 : Ob} {sc sw v vb vv : Value} {ws : WL} {xs : List Int}
theorem Lo.close3x {rs2 : List Ob} (h : Lo w0 lo hi b rb q A B (ex.set i nob ++ ([o1, o2, o3] ++ rs2)) w) (he : ex[i]? = some o0) : Lo w0 lo hi b rb q A B (ex.set i (joi o1 (joi o2 o3)) ++ rs2) w := by
  have hl := (List.getElem?_eq_some_iff.1 he).1
  have h1 := h.inX
  rw [← set_left he nob] at h1
  have h2 := Lo.close3 h1 (by rw [List.length_append]; omega)
  rw [set_left he] at h2
  exact h2
/-! The program's limbo. -/
theorem lM_box (h : Lo w0 lo hi b rb q A B ex w) (he : ex[i]? = some (lM g sc sw ws)) : ∃ As cs Aw cw, sc = .slice As 6 cs ∧ sw = .slice Aw ws.length cw := by
  obtain ⟨M, ⟨⟨⟨p, c, e1, _⟩, _⟩, h2, _⟩, _⟩ := h.is i _ he
  obtain ⟨Aw, cw, e2, _⟩ := rv_slice h2
  exact ⟨p, c, Aw, cw, e1, e2⟩
theorem x_add (h : Lo w0 lo hi b rb hq A B ex w) (he : ex[i]? = some (lM g sc sw ws)) {m cx : Nat} {p : Option Addr} {z : Int} (hx : Rdb (ex.set i nob) (.slice p m cx) xs) (hn : ws.length + m ≤ 1000) : Calls Try.prog 52 #[.pointer (some ⟨g, 0, none⟩), .int .i64 z, .slice p m cx] w fun e w' => e = .returned (.tuple #[]) ∧ ∃ sw', Lo w0 lo hi b rb hq A B (ex.set i (lM g sc sw' (ws ++ adds z xs))) w' := by
  have hlen := (List.getElem?_eq_some_iff.1 he).1
  obtain ⟨As, cs, Aw, cw, rfl, rfl⟩ := lM_box h he
  refine (lb_add rfl hn hx (Lo.open3 h he)).mono ?_
  rintro e w' ⟨he', Ak, ck, nk, ks, hk, hkn, hL⟩
  subst hkn
  subst hk
  exact ⟨he', _, Lo.close3 hL hlen⟩
theorem x_blocks (h : Lo w0 lo hi b rb hq A B ex w) (he : ex[i]? = some (lM g sc sw ws)) (hn : ws.length = n) (hn2 : n ≤ 1000) : Calls Try.prog 63 #[.pointer (some ⟨g, 0, none⟩)] w fun e w' => ∃ Ao co, e = .returned (.slice Ao n co) ∧ Lo w0 lo hi b rb hq A B (ex ++ [rv TI 1 (.slice Ao n co) n (is (bsI ws))]) w' := by
  obtain ⟨As, cs, Aw, cw, rfl, rfl⟩ := lM_box h he
  subst hn
  refine (lb_blocks rfl hn2 (Lo.open3 h he)).mono ?_
  rintro e w' ⟨Ao, co, he', hL⟩
  refine ⟨Ao, co, he', ?_⟩
  have h2 := Lo.close3x (rs2 := [rv TI 1 (.slice Ao ws.length co) ws.length (is (bsI ws))]) hL he
  have h3 := set_id he
  unfold lM at h3
  rw [h3] at h2
  exact h2
theorem x_versions (h : Lo w0 lo hi b rb hq A B ex w) (he : ex[i]? = some (lM g sc sw ws)) (hn : ws.length = n) (hn2 : n ≤ 1000) : Calls Try.prog 64 #[.pointer (some ⟨g, 0, none⟩)] w fun e w' => ∃ Ao co, e = .returned (.slice Ao n co) ∧ Lo w0 lo hi b rb hq A B (ex ++ [rv TI 1 (.slice Ao n co) n (is (vsI ws))]) w' := by
  obtain ⟨As, cs, Aw, cw, rfl, rfl⟩ := lM_box h he
  subst hn
  refine (lb_versions rfl hn2 (Lo.open3 h he)).mono ?_
  rintro e w' ⟨Ao, co, he', hL⟩
  refine ⟨Ao, co, he', ?_⟩
  have h2 := Lo.close3x (rs2 := [rv TI 1 (.slice Ao ws.length co) ws.length (is (vsI ws))]) hL he
  have h3 := set_id he
  unfold lM at h3
  rw [h3] at h2
  exact h2
theorem x_drain (h : Lo w0 lo hi b rb hq A B ex w) (he : ex[i]? = some (lM g sc sw ws)) (hn2 : ws.length ≤ 1000) (hw : WOk ws) {z : Int} : Calls Try.prog 55 #[.pointer (some ⟨g, 0, none⟩), .int .i64 z] w fun e w' => ∃ gd v ps sw', e = .returned (.pointer (some ⟨gd, 0, none⟩)) ∧ ps.map Prod.snd = (tk z ws).map Prod.fst ∧ Lo w0 lo hi b rb hq A B (ex.set i (lM g sc sw' (kp z ws)) ++ [dM gd v ps 0 0]) w' := by
  obtain ⟨As, cs, Aw, cw, rfl, rfl⟩ := lM_box h he
  refine (lb_drain rfl hn2 hw (Lo.open3 h he)).mono ?_
  rintro e w' ⟨gd, Ap, np, cp, ps, Ak, nk, ck, ks, he', hps, hpn, hks, hkn, hL⟩
  subst hkn
  subst hks
  refine ⟨gd, .slice Ap np cp, ps, .slice Ak (kp z ws).length ck, he', hps, ?_⟩
  have h2 := Lo.close3x (rs2 := [bx gd TDr #[.slice Ap np cp], rdv (.slice Ap np cp) (ptrs ps), bxs ps]) hL he
  have h3 := Lo.glue3 h2
  unfold dM
  rw [mch_zero]
  exact h3
/-! The program's drain. -/
theorem dM_box {ps : PL} {st : Nat} {x : Int} (h : Lo w0 lo hi b rb q A B ex w) (he : ex[i]? = some (dM g v ps st x)) : ∃ p c, v = .slice p ps.length c ∧ Mem w g TDr #[.slice p ps.length c] := by
  obtain ⟨M, ⟨⟨⟨p, c, rfl, _⟩, _⟩, _⟩, _⟩ := h.is i _ he
  have hl : (ptrs ps).length = ps.length := by simp [ptrs]
  rw [hl] at M ⊢
  exact ⟨p, c, rfl, M⟩
theorem dx_left {ps : PL} {st : Nat} {x z : Int} (h : Lo w0 lo hi b rb q A B ex w) (he : ex[i]? = some (dM g v ps st x)) (hz : Hid ((ps.length : Int) = z)) : Calls Try.prog 60 #[.pointer (some ⟨g, 0, none⟩)] w fun e w' => e = .returned (.int .i64 z) ∧ w = w' := by
  obtain ⟨p, c, _, M⟩ := dM_box h he
  have := dr_left M
  rw [hz.out] at this
  exact this
theorem dx_done {ps : PL} {st : Nat} {x : Int} {D : Bool} (h : Lo w0 lo hi b rb q A B ex w) (he : ex[i]? = some (dM g v ps st x)) (hd : Hid (decide (ps.length = 0) = D)) : Calls Try.prog 58 #[.pointer (some ⟨g, 0, none⟩)] w fun e w' => e = .returned (.bool D) ∧ w = w' := by
  obtain ⟨p, c, _, M⟩ := dM_box h he
  exact dr_done M hd.out
theorem dx_step {ps : PL} {st : Nat} {x : Int} {A' : Int → List Int} {k1 k2 k3 k4 k5 : Int} {d : Bool} (h : Lo w0 lo hi b rb hq A B ex w) (he : ex[i]? = some (dM g v ps st x)) (hd : Dk A (ps.map Prod.snd) st x) (hac : Hid (dC A (ps.map Prod.snd) st x = (k1, k2, k3, k4, k5, d))) (hA : Hid (dA A (ps.map Prod.snd) st x = A')) : Calls Try.prog 61 #[.pointer (some ⟨g, 0, none⟩), .pointer (some ⟨b, 0, none⟩)] w fun e w' => e = .returned (accV k1 k2 k3 k4 k5 d) ∧ ∃ v', Lo w0 lo hi b rb hq A' B (ex.set i (dM g v' (dB ps st) (dS ps st) (dX A (ps.map Prod.snd) st x))) w' := by
  have hlen := (List.getElem?_eq_some_iff.1 he).1
  cases ps with
  | nil =>
    have h0 := hd.nil rfl
    have hac := hac.out
    have hA := hA.out
    simp only [List.map_nil, dC] at hac
    simp only [List.map_nil, dA] at hA
    subst hA
    obtain ⟨rfl, rfl, rfl, rfl, rfl, rfl⟩ := prod6 hac
    obtain ⟨p, c, rfl, M⟩ := dM_box h he
    have h2 := Lo.open3 h he
    have h3 : Lo w0 lo hi b rb hq A B (ex.set i nob ++ ([bx g TDr #[.slice p 0 c]] ++ [rdv (.slice p 0 c) (ptrs []), mch [] st x])) w := h2
    refine (dr_over rfl h3.inX).mono ?_
    rintro e w' ⟨he', hL⟩
    exact ⟨he', _, Lo.close3 (o1 := bx g TDr #[.slice p 0 c]) (o2 := rdv (.slice p 0 c) (ptrs [])) (o3 := mch [] 0 0) hL.outX hlen⟩
  | cons p t =>
    obtain ⟨g0, bk⟩ := p
    have h3 := Lo.open3 h he
    have r1 : RdV w v (ptrs ((g0, bk) :: t)) := h3.isR 1 rfl
    obtain ⟨gl, ol, c, rfl, hc1, _, _⟩ := r1.cell (by simp [ptrs])
    obtain ⟨n, hn⟩ : ∃ n, (ptrs ((g0, bk) :: t)).length = n := ⟨_, rfl⟩
    have hn1 : 1 ≤ n := by rw [← hn]; simp [ptrs]
    rw [hn] at h3 hc1
    have h4 : Lo w0 lo hi b rb hq A B (ex.set i nob ++ ([bx g TDr #[.slice (some ⟨gl, ol, none⟩) n c], rdv (.slice (some ⟨gl, ol, none⟩) n c) (PV g0 :: ptrs t), bx g0 TPu (uBox st (cl bk) bk x)] ++ [bxs t])) w := Lo.partR (rs := [bx g TDr #[.slice (some ⟨gl, ol, none⟩) n c], rdv (.slice (some ⟨gl, ol, none⟩) n c) (PV g0 :: ptrs t), joi (bx g0 TPu (uBox st (cl bk) bk x)) (bxs t)]) h3 2 rfl
    have hd' : Dk A (bk :: t.map Prod.snd) st x := hd
    by_cases hst : st < 2
    · refine (dr_go hn1 hc1 hd' hac hA (st1 := ((st + 1 : Nat) : Int)) (Lib.hid rfl) (Lib.hid rfl) hst h4.inX).mono ?_
      rintro e w' ⟨he', hL⟩
      have h5 := Lo.joinR (rs := [bx g TDr #[.slice (some ⟨gl, ol, none⟩) n c], rdv (.slice (some ⟨gl, ol, none⟩) n c) (PV g0 :: ptrs t), bx g0 TPu (uBox ((st + 1 : Nat) : Int) (cl bk) bk (pX A bk st x))]) hL.outX 2 rfl
      refine ⟨he', .slice (some ⟨gl, ol, none⟩) n c, ?_⟩
      have e1 : dB ((g0, bk) :: t) st = (g0, bk) :: t := if_neg (by omega)
      have e2 : dS ((g0, bk) :: t) st = st + 1 := if_neg (by omega)
      have e3 : dX A (((g0, bk) :: t).map Prod.snd) st x = pX A bk st x := by
        have h01 : st = 0 ∨ st = 1 := by omega
        rcases h01 with rfl | rfl <;> rfl
      rw [e1, e2, e3]
      exact Lo.close3 (o1 := bx g TDr #[.slice (some ⟨gl, ol, none⟩) n c]) (o2 := rdv (.slice (some ⟨gl, ol, none⟩) n c) (ptrs ((g0, bk) :: t))) (o3 := mch ((g0, bk) :: t) (st + 1) (pX A bk st x)) h5 hlen
    · have hst2 : st = 2 := by have := hd.st2; omega
      refine (dr_last hn1 hc1 hd' hac hA (st1 := ((st + 1 : Nat) : Int)) (Lib.hid rfl) (Lib.hid rfl) hst2 h4.inX).mono ?_
      rintro e w' ⟨he', v', hL⟩
      have h5 : Lo w0 lo hi b rb hq A' B (ex.set i nob ++ [bx g TDr #[v'], rdv v' (ptrs t), bxs t]) w' := Lo.sub hL.outX (List.Sublist.append_left (List.Sublist.cons_cons _ (List.Sublist.cons_cons _ (List.sublist_cons_self _ _))) _)
      refine ⟨he', v', ?_⟩
      subst hst2
      show Lo w0 lo hi b rb hq A' B (ex.set i (dM g v' t 0 0)) w'
      unfold dM
      rw [mch_zero]
      exact Lo.close3 h5 hlen
/-! The reference's limbo. -/
theorem qM_box (h : Lo w0 lo hi b rb q A B ex w) (he : ex[i]? = some (qM y vb vv ws)) : ∃ Ab cb Av cv, vb = .slice Ab ws.length cb ∧ vv = .slice Av ws.length cv ∧ w.cell? ⟨y, 13, none⟩ = some vb ∧ w.cell? ⟨y, 14, none⟩ = some vv := by
  obtain ⟨M, ⟨h1, h2, _⟩, _⟩ := h.is i _ he
  obtain ⟨Ab, cb, e1, _⟩ := rv_slice h1
  obtain ⟨Av, cv, e2, _⟩ := rv_slice h2
  have M' : Mem w y TRl (cfa vb vv) := M
  exact ⟨Ab, cb, Av, cv, e1, e2, M'.cell 13, M'.cell 14⟩
theorem qM_rows (h : Lo w0 lo hi b rb q A B ex w) (he : ex[i]? = some (qM y vb vv ws)) : RdR .i64 w vb (bsI ws) ∧ RdR .i64 w vv (vsI ws) := by
  obtain ⟨_, ⟨h1, h2, _⟩, _⟩ := h.is i _ he
  have e1 : (bsI ws).length = ws.length := by simp [bsI]
  have e2 : (vsI ws).length = ws.length := by simp [vsI]
  refine ⟨rdr_own (T := TI) (B := 0) ?_, rdr_own (T := TI) (B := 0) ?_⟩
  · rw [e1]; exact h1
  · rw [e2]; exact h2
theorem y_add (h : Lo w0 lo hi b rb hq A B ex w) (he : ex[i]? = some (qM y vb vv ws)) {m cx : Nat} {p : Option Addr} {z : Int} (hx : Rdb (ex.set i nob) (.slice p m cx) xs) (hn : ws.length + m ≤ 1000) : Calls Try.prog 54 #[.pointer (some ⟨y, 0, none⟩), .int .i64 z, .slice p m cx] w fun e w' => e = .returned (.tuple #[]) ∧ ∃ vb' vv', Lo w0 lo hi b rb hq A B (ex.set i (qM y vb' vv' (ws ++ adds z xs))) w' := by
  have hlen := (List.getElem?_eq_some_iff.1 he).1
  obtain ⟨Ab, cb, Av, cv, rfl, rfl, _⟩ := qM_box h he
  refine (ql_add rfl hn hx (Lo.open3 h he)).mono ?_
  rintro e w' ⟨he', Ak, Al, ck, cl0, nk, ks, hk, hkn, hL⟩
  subst hkn
  subst hk
  exact ⟨he', _, _, Lo.close3 hL hlen⟩
theorem y_take (h : Lo w0 lo hi b rb hq A B ex w) (he : ex[i]? = some (qM y vb vv ws)) (hn : ws.length ≤ 1000) {z : Int} : Calls Try.prog 57 #[.pointer (some ⟨y, 0, none⟩), .int .i64 z] w fun e w' => ∃ Ao co vb' vv', e = .returned (.slice Ao (tk z ws).length co) ∧ Lo w0 lo hi b rb hq A B (ex.set i (qM y vb' vv' (kp z ws)) ++ [rv TI 1 (.slice Ao (tk z ws).length co) (tk z ws).length (is (bsI (tk z ws)))]) w' := by
  obtain ⟨Ab, cb, Av, cv, rfl, rfl, _⟩ := qM_box h he
  refine (ql_take rfl hn (Lo.open3 h he)).mono ?_
  rintro e w' ⟨Ao, no, co, ts, Ak, Al, ck, cl0, nk, ks, he', hts, htn, hks, hkn, hL⟩
  subst hkn
  subst hks
  subst htn
  subst hts
  exact ⟨Ao, co, _, _, he', Lo.close3x (rs2 := [rv TI 1 (.slice Ao (tk z ws).length co) (tk z ws).length (is (bsI (tk z ws)))]) hL he⟩
/-! The reference's drain. -/
theorem bsI_bI (ws : WL) : bsI ws = bI (ws.map Prod.fst) := by simp [bsI, bI]
theorem y_new {Ao : Option Addr} {no co : Nat} {ts : WL} (h : Lo w0 lo hi b rb hq A B (ex ++ [rv TI 1 (.slice Ao no co) no (is (bsI ts))]) w) (hno : ts.length = no) (hw : WOk ts) : Calls Try.prog 56 #[.agg #[.int .i64 20, .int .i64 4, .int .i64 1, .int .i64 3, .int .i64 2, .int .i64 1, .int .i64 0, .int .i64 1, .int .i64 1, .int .i64 0, .int .i64 0, .int .i64 0, .bool false], .slice Ao no co] w fun e w' => ∃ y po, e = .returned (.pointer (some ⟨y, 0, none⟩)) ∧ Lo w0 lo hi b rb hq A B (ex ++ [rM y (.slice Ao no co) po (ts.map Prod.fst) 0 0]) w' := by
  have hl : (bsI ts).length = no := by rw [← hno]; simp [bsI]
  have h1 : Lo w0 lo hi b rb hq A B (ex ++ [rd .i64 (.slice Ao no co) (bI (ts.map Prod.fst))]) w := by
    rw [← bsI_bI]
    exact h.seeR 0 rfl (rdr_own (T := TI) (B := 0) (by rw [hl]; exact h.isR 0 rfl)) (fun _ h => h)
  have fin : ∀ {w' : World} {y : Nat} {po : Option Addr} {o1 : Ob}, (rpu po (ts.map Prod.fst) 0 0 = o1) → (ts.map Prod.fst ≠ [] → ∃ gp, po = some ⟨gp, 0, none⟩) → Lo w0 lo hi b rb hq A B (ex ++ [bx y TRd (cfa (.slice Ao no co) (.pointer po)), rd .i64 (.slice Ao no co) (bI (ts.map Prod.fst)), o1]) w' → Lo w0 lo hi b rb hq A B (ex ++ [rM y (.slice Ao no co) po (ts.map Prod.fst) 0 0]) w' := by
    intro w' y po o1 e hp hL
    subst e
    have h2 := Lo.addR hL (Below.refl _ _) (o := pur (ts.map Prod.fst ≠ [] → ∃ gp, po = some ⟨gp, 0, none⟩)) hp fun g hg => absurd hg List.not_mem_nil
    exact Lo.glue3 (Lo.joinR (rs := [bx y TRd (cfa (.slice Ao no co) (.pointer po)), rd .i64 (.slice Ao no co) (bI (ts.map Prod.fst)), rpu po (ts.map Prod.fst) 0 0]) h2 2 rfl)
  cases ts with
  | nil =>
    subst hno
    refine (qd_new0 (p := Ao) (c := co) h1).mono ?_
    rintro e w' ⟨y, he', hL⟩
    refine ⟨y, none, he', fin rfl (fun h => absurd rfl h) ?_⟩
    exact Lo.addR (rs := [_, _]) hL (Below.refl _ _) (o := nob) trivial fun g hg => absurd hg List.not_mem_nil
  | cons p t =>
    obtain ⟨bk, vk⟩ := p
    have r1 : RdR .i64 w (.slice Ao no co) (bI (((bk, vk) :: t).map Prod.fst)) := h1.isR 0 rfl
    obtain ⟨gl, ol, c, e0, _⟩ := r1.cell (by simp [bI])
    injection e0 with e1 e2 e3
    subst e1
    have hb6 : bk < 6 := hw (bk, vk) (List.mem_cons_self ..)
    refine (qd_new1 (gl := gl) (ol := ol) (n := no) (c := co) (bk := bk) (rest := bI (t.map Prod.fst)) (by rw [← hno]; simp) hb6 h1).mono ?_
    rintro e w' ⟨y, gq, he', hL⟩
    exact ⟨y, some ⟨gq, 0, none⟩, he', fin rfl (fun _ => ⟨gq, rfl⟩) hL⟩
theorem rM_box {po : Option Addr} {bs : List Nat} {st : Nat} {x : Int} (h : Lo w0 lo hi b rb q A B ex w) (he : ex[i]? = some (rM y vb po bs st x)) : ∃ p c, vb = .slice p bs.length c ∧ Mem w y TRd (cfa (.slice p bs.length c) (.pointer po)) := by
  obtain ⟨M, ⟨⟨⟨p, c, rfl, _⟩, _⟩, _⟩, _⟩ := h.is i _ he
  have hl : (bI bs).length = bs.length := by simp [bI]
  rw [hl] at M ⊢
  exact ⟨p, c, rfl, M⟩
theorem ry_cell {po : Option Addr} {bs : List Nat} {st : Nat} {x : Int} (h : Lo w0 lo hi b rb q A B ex w) (he : ex[i]? = some (rM y vb po bs st x)) : ∃ p c, w.cell? ⟨y, 13, none⟩ = some (.slice p bs.length c) := by
  obtain ⟨p, c, _, M⟩ := rM_box h he
  exact ⟨p, c, M.cell 13⟩
theorem ry_done {po : Option Addr} {bs : List Nat} {st : Nat} {x : Int} {D : Bool} (h : Lo w0 lo hi b rb q A B ex w) (he : ex[i]? = some (rM y vb po bs st x)) (hd : Hid (decide (bs.length = 0) = D)) : Calls Try.prog 59 #[.pointer (some ⟨y, 0, none⟩)] w fun e w' => e = .returned (.bool D) ∧ w = w' := by
  obtain ⟨p, c, _, M⟩ := rM_box h he
  exact qd_done M hd.out
theorem ry_step {po : Option Addr} {bs : List Nat} {st : Nat} {x : Int} {B' : Int → List Int} {k1 k2 k3 k4 k5 : Int} {d : Bool} (h : Lo w0 lo hi b rb hq A B ex w) (he : ex[i]? = some (rM y vb po bs st x)) (hd : Dk B bs st x) (hac : Hid (dC B bs st x = (k1, k2, k3, k4, k5, d))) (hA : Hid (dA B bs st x = B')) : Calls Try.prog 62 #[.pointer (some ⟨y, 0, none⟩), .pointer (some ⟨rb, 0, none⟩)] w fun e w' => e = .returned (accV k1 k2 k3 k4 k5 d) ∧ ∃ vb' po', Lo w0 lo hi b rb hq A B' (ex.set i (rM y vb' po' (dB bs st) (dS bs st) (dX B bs st x))) w' := by
  have hlen := (List.getElem?_eq_some_iff.1 he).1
  have fin : ∀ {w' : World} {vb' : Value} {po' : Option Addr} {bs' : List Nat} {st' : Nat} {x' : Int} {o1 : Ob}, (rpu po' bs' st' x' = o1) → (bs' ≠ [] → ∃ gp, po' = some ⟨gp, 0, none⟩) → Lo w0 lo hi b rb hq A B' (ex.set i nob ++ [bx y TRd (cfa vb' (.pointer po')), rd .i64 vb' (bI bs'), o1]) w' → Lo w0 lo hi b rb hq A B' (ex.set i (rM y vb' po' bs' st' x')) w' := by
    intro w' vb' po' bs' st' x' o1 e hp hL
    subst e
    have h2 := Lo.addR hL (Below.refl _ _) (o := pur (bs' ≠ [] → ∃ gp, po' = some ⟨gp, 0, none⟩)) hp fun g hg => absurd hg List.not_mem_nil
    exact Lo.close3 (Lo.joinR (rs := [bx y TRd (cfa vb' (.pointer po')), rd .i64 vb' (bI bs'), rpu po' bs' st' x']) h2 2 rfl) hlen
  have h3 := Lo.open3 h he
  have h4 := Lo.partR (rs := [bx y TRd (cfa vb (.pointer po)), rd .i64 vb (bI bs), joi (rpu po bs st x) (pur (bs ≠ [] → ∃ gp, po = some ⟨gp, 0, none⟩))]) h3 2 rfl
  have hpo : bs ≠ [] → ∃ gp, po = some ⟨gp, 0, none⟩ := h4.isR 3 rfl
  have h5 : Lo w0 lo hi b rb hq A B (ex.set i nob ++ [bx y TRd (cfa vb (.pointer po)), rd .i64 vb (bI bs), rpu po bs st x]) w := Lo.dropR (rs := [_, _, _]) h4
  clear h3 h4
  cases bs with
  | nil =>
    have h0 := hd.nil rfl
    have hac := hac.out
    have hA := hA.out
    simp only [dC] at hac
    simp only [dA] at hA
    subst hA
    obtain ⟨rfl, rfl, rfl, rfl, rfl, rfl⟩ := prod6 hac
    obtain ⟨p, c, rfl, M⟩ := rM_box h he
    have h6 : Lo w0 lo hi b rb hq A B (ex.set i nob ++ ([bx y TRd (cfa (.slice p 0 c) (.pointer po))] ++ [rd .i64 (.slice p 0 c) (bI []), rpu po [] st x])) w := h5
    refine (qd_over rfl h6.inX).mono ?_
    rintro e w' ⟨he', hL⟩
    refine ⟨he', .slice p 0 c, po, fin rfl (fun h => absurd rfl h) (o1 := rpu po [] 0 0) ?_⟩
    have e9 : rpu po [] 0 0 = rpu po [] st x := by cases po <;> rfl
    rw [e9]
    exact hL.outX
  | cons bk t =>
    obtain ⟨g0, rfl⟩ := hpo (by simp)
    have r1 : RdR .i64 w vb (bI (bk :: t)) := h5.isR 1 rfl
    obtain ⟨gl, ol, c, rfl, hc1, _, _⟩ := r1.cell (by simp [bI])
    obtain ⟨n, hn⟩ : ∃ n, (bI (bk :: t)).length = n := ⟨_, rfl⟩
    have hnt : n = t.length + 1 := by rw [← hn]; simp [bI]
    rw [hn] at h5 hc1
    by_cases hst : st < 2
    · refine (qd_go hc1 hd hac hA (st1 := ((st + 1 : Nat) : Int)) (Lib.hid rfl) (Lib.hid rfl) hst (by omega) (rest := bI t) h5).mono ?_
      rintro e w' ⟨he', hL⟩
      refine ⟨he', .slice (some ⟨gl, ol, none⟩) n c, some ⟨g0, 0, none⟩, ?_⟩
      have e1 : dB (bk :: t) st = bk :: t := if_neg (by omega)
      have e2 : dS (bk :: t) st = st + 1 := if_neg (by omega)
      have e3 : dX B (bk :: t) st x = pX B bk st x := by
        have h01 : st = 0 ∨ st = 1 := by omega
        rcases h01 with rfl | rfl <;> rfl
      rw [e1, e2, e3]
      exact fin rfl (fun _ => ⟨g0, rfl⟩) hL
    · have hst2 : st = 2 := by have := hd.st2; omega
      subst hst2
      cases t with
      | nil =>
        obtain rfl : n = 1 := hnt
        refine (qd_last0 hc1 hd hac hA (st1 := ((2 + 1 : Nat) : Int)) (Lib.hid rfl) (Lib.hid rfl) rfl h5).mono ?_
        rintro e w' ⟨he', v', hL⟩
        refine ⟨he', v', some ⟨g0, 0, none⟩, ?_⟩
        show Lo w0 lo hi b rb hq A B' (ex.set i (rM y v' (some ⟨g0, 0, none⟩) [] 0 0)) w'
        exact fin (o1 := nob) rfl (fun h => absurd rfl h) (Lo.addR (rs := [_, _]) hL (Below.refl _ _) (o := nob) trivial fun g hg => absurd hg List.not_mem_nil)
      | cons b2 t =>
        have hb6 := hd.lt b2 (by simp)
        refine (qd_last1 hc1 hd hac hA (st1 := ((2 + 1 : Nat) : Int)) (Lib.hid rfl) (Lib.hid rfl) rfl (by rw [hnt]; simp) hb6 (rest := bI t) h5).mono ?_
        rintro e w' ⟨he', v', gq, hL⟩
        refine ⟨he', v', some ⟨gq, 0, none⟩, ?_⟩
        show Lo w0 lo hi b rb hq A B' (ex.set i (rM y v' (some ⟨gq, 0, none⟩) (b2 :: t) 0 0)) w'
        exact fin rfl (fun _ => ⟨gq, rfl⟩) hL
/-! Images, and lists out of them. -/
theorem own_rd {B : Nat} {xs : List Int} (h : OwnU w B v xs) : Rd w v xs := by
  have hr : RdR .u64 w v xs := rdr_own (T := TU) (B := B) h
  obtain ⟨⟨p, cap, rfl, _, _, hc⟩, _⟩ := hr
  exact ⟨p, cap, rfl, hc⟩
theorem one_get {l : List Int} (h : l.length = 1) : ∃ x, l = [x] := List.length_eq_one_iff.1 h
theorem lo_imageH (h : Lo w0 lo hi b rb q A B ex w) (h3 : (A 3).length = 1) (h4 : (A 4).length = 1) (h5 : (A 5).length = 1) : Calls Try.prog 17 #[.pointer (some ⟨b, 0, none⟩)] w fun e w' => ∃ c t s vd vo vl vh vn, e = .returned (imgV vd vo c t s vl vh vn) ∧ (∃ p n c, vd = .slice p n c) ∧ (∃ p n c, vo = .slice p n c) ∧ (∃ p n c, vl = .slice p n c) ∧ Rd w' vh (A 7) ∧ Rd w' vn (A 8) ∧ Lo w0 lo hi b rb q A B ex w' := by
  obtain ⟨m1, m2, h1, h2, hm, ho⟩ := h.duo
  obtain ⟨c, hc⟩ := one_get h3
  obtain ⟨t, ht⟩ := one_get h4
  obtain ⟨s, hs⟩ := one_get h5
  refine (CelY.m_image lo m1 w b A h1 c t s hc ht hs).mono ?_
  rintro e w' ⟨vd, vo, vl, vh, vn, he, ⟨hvd, hvo, hvl, hvh, hvn⟩, hI, hS⟩
  have := Duo.left h2 hm ho hI hS
  obtain ⟨p1, c1, e1, _⟩ := own_slice hvd
  obtain ⟨p2, c2, e2, _⟩ := own_slice hvo
  obtain ⟨p3, c3, e3, _⟩ := own_slice hvl
  exact ⟨c, t, s, vd, vo, vl, vh, vn, he, ⟨_, _, _, e1⟩, ⟨_, _, _, e2⟩, ⟨_, _, _, e3⟩, own_rd hvh, own_rd hvn, h.cellsTo this.1 this.2⟩
theorem ownq_rdr {xs : List Int} {B : Nat} (h : OwnQ w B v xs) : RdS .i64 w v xs := by
  obtain ⟨Aa, cap, rfl, h1, h2, h3⟩ := h
  refine ⟨Aa, cap, rfl, h1, h2, fun j x hj => ?_⟩
  have hl := (List.getElem?_eq_some_iff.1 hj).1
  rcases h3 with h3 | ⟨g, off, cur, rfl, _, h5, _, h7⟩
  · omega
  · refine ⟨g, off, rfl, ?_⟩
    have h8 := h7 j x hj
    simp only [World.cell?, h5]
    simpa using h8
theorem lo_list {K : Int} {T : Nat → Int} {L : Nat → List Nat} {vd vo vl vh vn : Value} {c t s : Int} (h : Lo w0 lo hi b rb q A B ex w) (hc : Ch K A T L) (hK : K ≤ 1000000) (h1 : ∃ p n c, vd = .slice p n c) (h2 : ∃ p n c, vo = .slice p n c) (h3 : ∃ p n c, vl = .slice p n c) (hH : Rd w vh (A 7)) (hN : Rd w vn (A 8)) (k : Nat) (hk : k ≤ 3) (h1c : ∀ j, (L k).count j ≤ 1) :
    Calls Try.prog 45 #[imgV vd vo c t s vl vh vn, .int .i64 k] w fun e w' => ∃ Aa ca, e = .returned (.tuple #[.slice Aa (L k).length ca, .int .i64 0]) ∧ RdS .i64 w' (.slice Aa (L k).length ca) (bI (L k)) ∧ Lo w0 lo hi b rb q A B ex w' := by
  obtain ⟨p1, n1, c1, rfl⟩ := h1
  obtain ⟨p2, n2, c2, rfl⟩ := h2
  obtain ⟨p3, n3, c3, rfl⟩ := h3
  have hs := hc.six hK
  have hH' := hH
  obtain ⟨p4, c4, rfl, _⟩ := hH'
  have hN' := hN
  obtain ⟨p5, c5, rfl, _⟩ := hN'
  have hu : ∀ j, j < (A 8).length → 0 ≤ (A 8).getD j 0 ∧ (A 8).getD j 0 ≤ 18446744073709551615 := hc.u8
  have htop := hc.top hk
  have hT := hc.T0 k hk
  have hx : (A 7).getD k 0 = T k * 65536 + hd (L k) := by rw [hc.a7, hds_at hk]
  have hm : (T k * 65536 + hd (L k)) % 65536 = hd (L k) := by omega
  rw [hs.l7, hs.l8] at *
  refine (a_list p1 p2 p3 p4 p5 n1 n2 n3 6 c1 c2 c3 c4 c5 c t s k hk w (A 7) (A 8) hH hs.l7 hN hs.l8 (by omega) _ hx (by omega) (by omega) hu).mono ?_
  rintro e w' ⟨Aa, n, ca, er, he, hb, hor⟩
  have hlv : lsV (A 8) (hd (L k)) = some (bI (L k)) := ls_of (hc.lin k hk) (fun b hb => by rw [hs.l8]; exact hc.lcl k hk b hb) h1c
  rw [hm, hlv] at hor
  rcases hor with ⟨h9, _⟩ | ⟨out, ho, her, hq⟩
  · cases h9
  · injection ho with ho
    subst ho
    subst her
    have hr := ownq_rdr hq
    have hl : (bI (L k)).length = (L k).length := by simp [bI]
    have hn : n = (L k).length := by
      obtain ⟨p, cap, e, _⟩ := hr
      injection e with e1 e2 e3
      rw [e2, hl]
    subst hn
    exact ⟨Aa, ca, he, hr, h.below hb⟩
end
end Go.Proofs.Ytpjbmbipkmpkhaa.LmF
