/-
  The reference of package locker: a machine as one object; three threads with both machines side by side.
-/
import Derived.Test.YtphnadchdhblpaaGreatLkZ
import Derived.Test.YtphnadchdhblpaaGreatLkL
import Derived.Test.YtphnadchdhblpaaGreatLkQ
namespace Go.Proofs.YtphnadchdhblpaaGreat.LkY
open Go.ChangeShapes Go.WideShapes Go.ChangeAt Go.RowKit
open LawFrame PlainT BlkW LayS LayA LayH LayK LayP CelS CelM CelP CelV CelN CelO CelF LabD LabR LabP LabS LabX LabN CelLo RsA ObjA LkP LkQ SrtA SrtB LkA LkB LkZ LkL
set_option linter.unusedVariables false
set_option maxHeartbeats 1000000

/-- Words of records: version at most 1000, or held by one of three threads. -/
abbrev WB (x : Int) : Prop := 0 ≤ x ∧ x ≤ 64003
def VW (V : List Int) : Prop := V.length = 6 ∧ ∀ i, WB (V.getD i 0)
structure LW (s : LS) : Prop where
  ok : LOk s
  f : WB s.f
  ys : ∀ y ∈ s.ys, WB y
theorem vw_vok {V : List Int} (h : VW V) : VOk V := ⟨h.1, fun i => by have := h.2 i; omega⟩
theorem vw_set {V : List Int} (h : VW V) {o : Nat} {x : Int} (hx : WB x) : VW (V.set o x) := by
  refine ⟨by rw [List.length_set]; exact h.1, fun i => ?_⟩
  rcases Nat.lt_or_ge o V.length with ho | ho
  · rw [getD_set ho]
    split
    · exact hx
    · exact h.2 i
  · rw [List.set_eq_of_length_le ho]
    exact h.2 i
theorem lw_next {s : LS} {V : List Int} {t : Int} (h : LW s) (hV : VW V) (t0 : 0 ≤ t) (t1 : t < 3) : LW (nxS s V) ∧ WB (lsP t s V) := by
  have hx : WB (lsX s V) := hV.2 _
  have hl := h.ok.len
  unfold nxS lsP
  split
  · exact ⟨h, hx⟩
  · rename_i hd
    split
    · split
      · refine ⟨⟨⟨?_, h.ok.few, h.ok.inS, fun e => by cases e⟩, h.f, fun y hy => ?_⟩, by have := h.f; omega⟩
        · simp; omega
        · rcases List.mem_append.1 hy with hy | hy
          · exact h.ys y hy
          · simp at hy
            rw [hy]
            exact h.f
      · exact ⟨⟨⟨hl, h.ok.few, h.ok.inS, fun e => by cases e⟩, h.f, h.ys⟩, hx⟩
    · exact ⟨⟨⟨hl, h.ok.few, h.ok.inS, fun _ => by show 0 ≤ lsX s V ∧ lsX s V ≤ 1000000; omega⟩, hx, h.ys⟩, hx⟩
/-- The reference's machine: its second row is its own (k) or is only read. -/
def qlM (k : Bool) (g : Nat) (t : Int) (vs vq : Value) (s : LS) : Ob := joi (bx g TQl #[.int .i64 t, vs, vq, .bool s.rdy, .int .u64 s.f]) (joi (rd .i64 vs s.S) (if k = true then own .u64 TU vq s.ys else rd .u64 vq s.ys))
section
variable {w0 w : World} {lo hi b rb g i : Nat} {q : Cfg} {A B : Int → List Int} {ex : List Ob} {t : Int} {vs vq : Value} {s : LS} {k : Bool}
theorem ql_rows (h : Lo w0 lo hi b rb q A B ex w) (he : ex[i]? = some (qlM k g t vs vq s)) : Mem w g TQl #[.int .i64 t, vs, vq, .bool s.rdy, .int .u64 s.f] ∧ RdR .i64 w vs s.S ∧ RdR .u64 w vq s.ys := by
  obtain ⟨h1, ⟨h2, h3, _⟩, _⟩ := h.is i _ he
  refine ⟨h1, h2, ?_⟩
  cases k with
  | true => exact rdr_own h3
  | false => exact h3
theorem ql_see (h : Lo w0 lo hi b rb q A B ex w) (he : ex[i]? = some (qlM k g t vs vq s)) : Lo w0 lo hi b rb q A B (ex.set i (qlM false g t vs vq s)) w := by
  cases k with
  | false => exact h.see i he (h.is i _ he) fun _ hg => hg
  | true =>
    refine h.see i he ?_ fun _ hg => hg
    obtain ⟨h1, ⟨h2, h3, h4⟩, h5⟩ := h.is i _ he
    exact ⟨h1, ⟨h2, rdr_own h3, h4⟩, h5⟩
theorem qx_done (h : Lo w0 lo hi b rb q A B ex w) (he : ex[i]? = some (qlM k g t vs vq s)) {D : Bool} (hd : Hid (decide (s.ys.length = s.S.length) = D)) : Calls Tryz.prog 15 #[.pointer (some ⟨g, 0, none⟩)] w fun e w' => e = .returned (.bool D) ∧ ∃ n, w' = w.drewN n := by
  obtain ⟨M, ⟨⟨p1, c1, rfl, _⟩, _⟩, ⟨⟨p2, c2, rfl, _⟩, _⟩⟩ := ql_rows h he
  have := rq_done M
  rw [hd.out] at this
  exact this
theorem qx_step (h : Lo w0 lo hi b rb q A B ex w) (he : ex[i]? = some (qlM true g t vs vq s)) (hs : LOk s) (hnd : ¬ s.ys.length = s.S.length) (hV : VOk (B 2)) (t0 : 0 ≤ t) (t1 : t < 16) {k1 k2 k3 k4 k5 : Int} {d : Bool} (hac : Hid (lsAc t s (B 2) = (k1, k2, k3, k4, k5, d))) :
    Calls Tryz.prog 19 #[.pointer (some ⟨g, 0, none⟩), .pointer (some ⟨rb, 0, none⟩)] w fun e w' => e = .returned (accV k1 k2 k3 k4 k5 d) ∧ ∃ vq', Lo w0 lo hi b rb q A (upd B 2 (lsO s) (lsP t s (B 2))) (ex.set i (qlM true g t vs vq' (nxS s (B 2)))) w' := by
  have hac := hac.out
  have hlen : i < ex.length := (List.getElem?_eq_some_iff.1 he).1
  have h3 := h.open3 he
  have ho := lsO_lt hs
  have hl : lsO s < (B 2).length := by rw [hV.1]; exact ho
  obtain ⟨x0, x1⟩ := hV.2 (lsO s)
  obtain ⟨x, hx⟩ : ∃ x, lsX s (B 2) = x := ⟨_, rfl⟩
  have hx' : (B 2).getD (lsO s) 0 = x := hx
  rw [hx'] at x0 x1
  unfold lsAc at hac
  unfold lsP nxS
  rw [hx] at hac ⊢
  rw [if_neg hnd] at hac
  simp only [if_neg hnd]
  obtain ⟨_, hat⟩ := ls_cons hs hnd
  have hr : RdR .i64 w vs s.S := h3.isR 1 rfl
  obtain ⟨gl, ol, c, rfl, hc1, hc2, _⟩ := hr.cell (by have := hs.len; omega)
  have hrow : w.ownsRow 0 TU 1 vq s.ys.length (s.ys.map (Value.int .u64)) := h3.isR 2 rfl
  obtain ⟨Ao, co, rfl, _⟩ := own_slice hrow
  have hlen2 := hs.len
  have hfew := hs.few
  cases hrd : s.rdy with
  | true =>
    obtain ⟨f0, f1⟩ := hs.rf hrd
    rw [hrd, if_pos rfl] at hac
    simp only [if_true]
    rw [hrd] at h3
    by_cases hxf : x = s.f
    · rw [if_pos hxf] at hac
      simp only [if_pos hxf]
      obtain ⟨rfl, rfl, rfl, rfl, rfl, rfl⟩ := prod6 hac
      have hx2 : (B 2).getD (lsO s) 0 = s.f := hx'.trans hxf
      rw [hxf]
      refine (rq_swap_yes hl hx2 (by omega) hat (by omega) rfl f0 f1 t0 t1 rfl h3).mono ?_
      rintro e w' ⟨he', Aa, ca, hL⟩
      exact ⟨he', .slice Aa (s.ys.length + 1) ca, Lo.close3 hL hlen⟩
    · rw [if_neg hxf] at hac
      simp only [if_neg hxf]
      obtain ⟨rfl, rfl, rfl, rfl, rfl, rfl⟩ := prod6 hac
      refine (rq_swap_no hl hx' x0 (by omega) (by omega) hat (by omega) rfl f0 f1 t0 t1 rfl hxf h3).mono ?_
      rintro e w' ⟨he', hL⟩
      exact ⟨he', .slice Ao s.ys.length co, Lo.close3 hL hlen⟩
  | false =>
    rw [hrd] at hac h3
    simp only [Bool.false_eq_true, if_false] at hac ⊢
    obtain ⟨rfl, rfl, rfl, rfl, rfl, rfl⟩ := prod6 hac
    rw [upd_same hl hx']
    by_cases h64 : x % 64 = 0
    · refine (rq_look_free hl hx' x0 (by omega) (by omega) hat rfl (decide_eq_true (by omega)) h3).mono ?_
      rintro e w' ⟨he', hL⟩
      refine ⟨he', .slice Ao s.ys.length co, ?_⟩
      have := Lo.close3 hL hlen
      rw [show decide (x % 64 = 0) = true from decide_eq_true h64]
      exact this
    · refine (rq_look_held hl hx' x0 (by omega) (by omega) hat rfl (decide_eq_false (by omega)) h3).mono ?_
      rintro e w' ⟨he', hL⟩
      refine ⟨he', .slice Ao s.ys.length co, ?_⟩
      have := Lo.close3 hL hlen
      rw [show decide (x % 64 = 0) = false from decide_eq_false h64]
      exact this
theorem qx_new (h : Lo w0 lo hi b rb q A B ex w) (t : Int) (p : Option Addr) (n cap : Nat) (xs : List Int) (hr : RdS .i64 w (.slice p n cap) xs) (hn : xs.length = n) (hl : n ≤ 1000) : Calls Tryz.prog 13 #[.int .i64 t, .slice p n cap] w fun e w' => ∃ g vs, e = .returned (.pointer (some ⟨g, 0, none⟩)) ∧ Lo w0 lo hi b rb q A B (ex ++ [qlM true g t vs (.slice none 0 0) ⟨srt xs, [], false, 0⟩]) w' := by
  refine (rq_new h t p n cap xs hr hn hl).mono ?_
  rintro e w' ⟨g, pl, cl, he, hL⟩
  refine ⟨g, .slice pl (srt xs).length cl, he, ?_⟩
  have h2 : Lo w0 lo hi b rb q A B (ex ++ [bx g TQl #[.int .i64 t, .slice pl (srt xs).length cl, .slice none 0 0, .bool false, .int .u64 0], joi (rd .i64 (.slice pl (srt xs).length cl) (srt xs)) (own .u64 TU (.slice none 0 0) [])]) w' := Lo.joinR (rs := [bx g TQl #[.int .i64 t, .slice pl (srt xs).length cl, .slice none 0 0, .bool false, .int .u64 0], rd .i64 (.slice pl (srt xs).length cl) (srt xs)]) hL 1 rfl
  exact Lo.joinR (rs := [bx g TQl #[.int .i64 t, .slice pl (srt xs).length cl, .slice none 0 0, .bool false, .int .u64 0]]) h2 0 rfl
/-- The reference's stores: their rows are those of its lock. -/
def stM (g : Nat) (vs vq : Value) (k : Nat) : Ob := bx g TQs #[.int .i64 2, vs, vq, .int .i64 k]
theorem sx_done (h : Lo w0 lo hi b rb q A B ex w) {j m c k : Nat} {p : Option Addr} (he : ex[j]? = some (stM g (.slice p m c) vq k)) : Calls Tryz.prog 26 #[.pointer (some ⟨g, 0, none⟩)] w fun e w' => e = .returned (.bool ((k : Int) == (m : Int))) ∧ ∃ n, w' = w.drewN n := rs_done (h.is j _ he)
theorem sx_over (h : Lo w0 lo hi b rb q A B ex w) {j m c1 c2 : Nat} {p1 p2 : Option Addr} (he : ex[j]? = some (stM g (.slice p1 m c1) (.slice p2 m c2) m)) : Calls Tryz.prog 24 #[.pointer (some ⟨g, 0, none⟩), .pointer (some ⟨rb, 0, none⟩)] w fun e w' => e = .returned (accV 0 0 0 0 0 false) ∧ Lo w0 lo hi b rb q A B (ex.set j (stM g (.slice p1 m c1) (.slice p2 m c2) m)) w' := by
  have hj : j < ex.length := (List.getElem?_eq_some_iff.1 he).1
  refine (rs_over (h.take j he)).mono ?_
  rintro e w' ⟨he', hL⟩
  exact ⟨he', hL.give hj⟩
theorem sx_step {gs j m c1 c2 n : Nat} {p1 p2 : Option Addr} (h : Lo w0 lo hi b rb q A B ex w) (hij : i ≠ j) (he : ex[i]? = some (qlM false g t (.slice p1 m c1) (.slice p2 m c2) s)) (hj : ex[j]? = some (stM gs (.slice p1 m c1) (.slice p2 m c2) n)) (hm : s.S.length = m) (hm2 : s.ys.length = m) (hm3 : m ≤ 1000) (hV : VOk (B 2)) {o : Nat} (ho : s.S[n]? = some (o : Int)) (ho6 : o < 6) {v : Int} (hv : s.ys[n]? = some v) {x : Int} (hx : (B 2).getD o 0 = x) :
    Calls Tryz.prog 24 #[.pointer (some ⟨gs, 0, none⟩), .pointer (some ⟨rb, 0, none⟩)] w fun e w' => e = .returned (accV 2 2 o x v true) ∧ Lo w0 lo hi b rb q A (upd B 2 o v) (ex.set j (stM gs (.slice p1 m c1) (.slice p2 m c2) (n + 1))) w' := by
  have hi_ : i < ex.length := (List.getElem?_eq_some_iff.1 he).1
  have hj_ : j < ex.length := (List.getElem?_eq_some_iff.1 hj).1
  have hn : n < m := by rw [← hm]; exact (List.getElem?_eq_some_iff.1 ho).1
  have h1 := h.take j hj
  have he1 : (ex.set j nob ++ [stM gs (.slice p1 m c1) (.slice p2 m c2) n])[i]? = some (qlM false g t (.slice p1 m c1) (.slice p2 m c2) s) := ex_left (by rw [List.getElem?_set_ne (Ne.symm hij)]; exact he)
  have h2 := h1.open3 he1
  have hset : (ex.set j nob ++ [stM gs (.slice p1 m c1) (.slice p2 m c2) n]).set i nob = (ex.set j nob).set i nob ++ [stM gs (.slice p1 m c1) (.slice p2 m c2) n] := set_left (o := qlM false g t (.slice p1 m c1) (.slice p2 m c2) s) (by rw [List.getElem?_set_ne (Ne.symm hij)]; exact he) nob
  rw [hset, List.append_assoc] at h2
  have r1 : RdR .i64 w (.slice p1 m c1) s.S := (ql_rows h he).2.1
  have r2 : RdR .u64 w (.slice p2 m c2) s.ys := (ql_rows h he).2.2
  obtain ⟨g1, o1, c1', e1, _⟩ := r1.cell (by omega)
  obtain ⟨g2, o2, c2', e2, _⟩ := r2.cell (by omega)
  injection e1 with e1 _ e1c
  injection e2 with e2 _ e2c
  subst e1 e2
  have h3 : Lo w0 lo hi b rb q A B ((((ex.set j nob).set i nob) ++ [bx g TQl #[.int .i64 t, .slice (some ⟨g1, o1, none⟩) m c1, .slice (some ⟨g2, o2, none⟩) m c2, .bool s.rdy, .int .u64 s.f]]) ++ [stM gs (.slice (some ⟨g1, o1, none⟩) m c1) (.slice (some ⟨g2, o2, none⟩) m c2) n, rd .i64 (.slice (some ⟨g1, o1, none⟩) m c1) s.S, rd .u64 (.slice (some ⟨g2, o2, none⟩) m c2) s.ys]) w := h2.perm (by
    rw [List.append_assoc]
    exact List.Perm.append_left _ (List.Perm.swap ..))
  refine (rs_store (by rw [hV.1]; exact ho6) hx hn (by omega) ho hv h3).mono ?_
  rintro e w' ⟨he', hL⟩
  refine ⟨he', ?_⟩
  have h4 : Lo w0 lo hi b rb q A (upd B 2 o v) ((((ex.set j nob).set i nob) ++ [stM gs (.slice (some ⟨g1, o1, none⟩) m c1) (.slice (some ⟨g2, o2, none⟩) m c2) (n + 1)]) ++ [bx g TQl #[.int .i64 t, .slice (some ⟨g1, o1, none⟩) m c1, .slice (some ⟨g2, o2, none⟩) m c2, .bool s.rdy, .int .u64 s.f], rd .i64 (.slice (some ⟨g1, o1, none⟩) m c1) s.S, rd .u64 (.slice (some ⟨g2, o2, none⟩) m c2) s.ys]) w' := hL.perm (by
    rw [List.append_assoc, List.append_assoc]
    exact List.Perm.append_left _ (List.Perm.swap ..))
  have hcom : ((ex.set j nob).set i nob) = ((ex.set i nob).set j nob) := List.set_comm _ _ hij.symm
  rw [hcom] at h4
  have h5 : Lo w0 lo hi b rb q A (upd B 2 o v) (((ex.set i nob ++ [bx g TQl #[.int .i64 t, .slice (some ⟨g1, o1, none⟩) m c1, .slice (some ⟨g2, o2, none⟩) m c2, .bool s.rdy, .int .u64 s.f], rd .i64 (.slice (some ⟨g1, o1, none⟩) m c1) s.S, rd .u64 (.slice (some ⟨g2, o2, none⟩) m c2) s.ys]).set j nob) ++ [stM gs (.slice (some ⟨g1, o1, none⟩) m c1) (.slice (some ⟨g2, o2, none⟩) m c2) (n + 1)]) w' := h4.perm (by
    rw [List.set_append_left _ _ (by rw [List.length_set]; exact hj_), List.append_assoc, List.append_assoc]
    exact List.Perm.append_left _ List.perm_append_comm)
  have h6 := h5.give (by rw [List.length_append, List.length_set]; omega)
  rw [List.set_append_left _ _ (by rw [List.length_set]; exact hj_), List.set_comm _ _ hij] at h6
  have h7 := Lo.close3 (o1 := bx g TQl #[.int .i64 t, .slice (some ⟨g1, o1, none⟩) m c1, .slice (some ⟨g2, o2, none⟩) m c2, .bool s.rdy, .int .u64 s.f]) (o2 := rd .i64 (.slice (some ⟨g1, o1, none⟩) m c1) s.S) (o3 := rd .u64 (.slice (some ⟨g2, o2, none⟩) m c2) s.ys) h6 (by rw [List.length_set]; exact hi_)
  have e8 : (ex.set j (stM gs (.slice (some ⟨g1, o1, none⟩) m c1) (.slice (some ⟨g2, o2, none⟩) m c2) (n + 1))).set i (qlM false g t (.slice (some ⟨g1, o1, none⟩) m c1) (.slice (some ⟨g2, o2, none⟩) m c2) s) = ex.set j (stM gs (.slice (some ⟨g1, o1, none⟩) m c1) (.slice (some ⟨g2, o2, none⟩) m c2) (n + 1)) := by
    apply List.ext_getElem?
    intro a
    by_cases ea : i = a
    · subst ea
      rw [List.getElem?_set_self (by rw [List.length_set]; exact hi_), List.getElem?_set_ne (Ne.symm hij)]
      exact he.symm
    · rw [List.getElem?_set_ne ea]
  rw [← e8]
  exact h7
end
end Go.Proofs.YtphnadchdhblpaaGreat.LkY
