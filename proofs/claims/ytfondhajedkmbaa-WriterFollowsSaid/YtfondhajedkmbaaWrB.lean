/-
  Package writer and the reference's stores: a machine as one object, what a step makes of its state; boxes that read as lists.
-/
import Derived.Test.YtfondhajedkmbaaWrA
namespace Go.Proofs.Ytfondhajedkmbaa.WrB
open Go.ChangeShapes Go.WideShapes Go.ChangeAt Go.RowKit
open LawFrame PlainT BlkW LayS LayA LayH LayK CelS CelM CelP CelV CelN CelO CelI CelY CelF LabD LabR LabP LabS LabX LabN CelLo RsA ObjA ClnA WrA
set_option linter.unusedVariables false
set_option maxHeartbeats 1000000

/-- Where the k-th step stores, what, and what the step makes of the state. -/
def wO (xs : List Int) (k : Nat) : Nat := (xs.getD k 0).toNat
def wY (ys : List Int) (k : Nat) : Int := ys.getD k 0
def nK (xs : List Int) (k : Nat) : Nat := if k = xs.length then k else k + 1
def nA (A : Int → List Int) (xs ys : List Int) (k : Nat) : Int → List Int := if k = xs.length then A else upd A 1 (wO xs k) (wY ys k)
def acW (xs ys : List Int) (k : Nat) (V : List Int) : Int × Int × Int × Int × Int × Bool := if k = xs.length then (0, 0, 0, 0, 0, false) else (2, 1, wO xs k, V.getD (wO xs k) 0, wY ys k, true)
theorem acW_ex (xs ys : List Int) (k : Nat) (V : List Int) : ∃ k1 k2 k3 k4 k5 d, acW xs ys k V = (k1, k2, k3, k4, k5, d) := ⟨_, _, _, _, _, _, rfl⟩
theorem prod6 {a b c d e : Int} {f : Bool} {a' b' c' d' e' : Int} {f' : Bool} (h : (a, b, c, d, e, f) = (a', b', c', d', e', f')) : a = a' ∧ b = b' ∧ c = c' ∧ d = d' ∧ e = e' ∧ f = f' := by
  cases h
  exact ⟨rfl, rfl, rfl, rfl, rfl, rfl⟩
/-- Lists of addresses below eight. -/
structure LOk (xs : List Int) : Prop where
  few : xs.length ≤ 13
  inS : ∀ x ∈ xs, 0 ≤ x ∧ x ≤ 7
theorem LOk.at_ {xs : List Int} (h : LOk xs) {k : Nat} (hk : k < xs.length) : xs[k]? = some (wO xs k : Int) ∧ wO xs k < 8 := by
  have h0 := h.inS (xs[k]'hk) (List.getElem_mem hk)
  have e : xs.getD k 0 = xs[k]'hk := by rw [List.getD_eq_getElem?_getD, List.getElem?_eq_getElem hk]; rfl
  unfold wO
  rw [e, List.getElem?_eq_getElem hk]
  exact ⟨by congr 1; omega, by omega⟩
theorem LOk.take {xs : List Int} (h : LOk xs) (m : Nat) : LOk (xs.take m) := ⟨by have := h.few; rw [List.length_take]; omega, fun x hx => h.inS x (List.mem_of_mem_take hx)⟩
theorem wY_at {ys : List Int} {k : Nat} (hk : k < ys.length) : ys[k]? = some (wY ys k) := by
  unfold wY
  rw [List.getD_eq_getElem?_getD, List.getElem?_eq_getElem hk]
  rfl
theorem upd1 {A : Int → List Int} {o : Nat} {x : Int} : upd A 1 o x 1 = (A 1).set o x := if_pos rfl
theorem upd_ne1 {A : Int → List Int} {o : Nat} {x k : Int} (hk : k ≠ 1) : upd A 1 o x k = A k := if_neg hk
theorem nA_len {A : Int → List Int} {xs ys : List Int} {k : Nat} : (nA A xs ys k 1).length = (A 1).length := by
  unfold nA
  split
  · rfl
  · rw [upd1, List.length_set]
theorem nK_min {xs : List Int} {k i : Nat} (h : k = min i xs.length) : nK xs k = min (i + 1) xs.length := by
  unfold nK
  split <;> omega
/-- The words after j stores. -/
def wrt (V xs ys : List Int) : Nat → List Int
  | 0 => V
  | j + 1 => (wrt V xs ys j).set (wO xs j) (wY ys j)
theorem wrt_len {V xs ys : List Int} {j : Nat} : (wrt V xs ys j).length = V.length := by
  induction j with
  | zero => rfl
  | succ j ih => unfold wrt; rw [List.length_set, ih]
def wM (g : Nat) (v1 v2 : Value) (L1 L2 : List Int) : Ob := joi (bx g TWr #[v1, v2]) (joi (rd .i64 v1 L1) (rd .u64 v2 L2))
def sM (g : Nat) (v1 v2 : Value) (xs : List Int) (k : Nat) : Ob := joi (bx g TQs #[.int .i64 1, v1, v2, .int .i64 k]) (rd .i64 v1 xs)
theorem Lo.open2 {w0 w : World} {lo hi b rb : Nat} {q : Cfg} {A B : Int → List Int} {ex : List Ob} {i : Nat} {o1 o2 : Ob} (h : Lo w0 lo hi b rb q A B ex w) (he : ex[i]? = some (joi o1 o2)) : Lo w0 lo hi b rb q A B (ex.set i nob ++ [o1, o2]) w := by
  have h1 := h.take i he
  exact h1.partR 0 rfl
theorem Lo.close2 {w0 w : World} {lo hi b rb : Nat} {q : Cfg} {A B : Int → List Int} {ex : List Ob} {i : Nat} {o1 o2 : Ob} (h : Lo w0 lo hi b rb q A B (ex.set i nob ++ [o1, o2]) w) (hi_ : i < ex.length) : Lo w0 lo hi b rb q A B (ex.set i (joi o1 o2)) w := by
  have h1 : Lo w0 lo hi b rb q A B (ex.set i nob ++ [joi o1 o2]) w := Lo.joinR (rs := [o1]) h 0 rfl
  exact h1.give hi_
theorem set_id {ex : List Ob} {i : Nat} {o : Ob} (he : ex[i]? = some o) : ex.set i o = ex := by
  apply List.ext_getElem?
  intro j
  by_cases e : i = j
  · subst e
    rw [List.getElem?_set_self (List.getElem?_eq_some_iff.1 he).1, he]
  · rw [List.getElem?_set_ne e]
/-- The first m values of a []uint64 argument, in the caller's memory. -/
def VA (w0 : World) (p : Option Addr) (ys : List Int) (m : Nat) : Prop := ∀ k, k < m → ∃ gv ov, p = some ⟨gv, ov, none⟩ ∧ ∀ W, Below w0.heap.size w0 W → W.cell? ⟨gv, ov + k, none⟩ = some (.int .u64 (wY ys k))
theorem va_ints {wi wa : World} {p : Option Addr} {n m : Nat} {z : List Int} (h : Ints .u64 wi p n z) (hb : Below wi.heap.size wi wa) (hm : m ≤ n) : VA wa p (z.take m) m := fun k hk => by
  obtain ⟨h1, h2, h3⟩ := h
  obtain ⟨gv, ov, rfl, hg, hc⟩ := h3 (by omega)
  refine ⟨gv, ov, rfl, fun W hW => ?_⟩
  rw [World.cell?_of_block ((below_trans2 hb hW).block gv hg), hc k (by omega)]
  unfold wY
  rw [List.getD_eq_getElem?_getD, List.getD_eq_getElem?_getD, List.getElem?_take, if_pos hk]
theorem rds_ints {K : IntKind} {wi w : World} {p : Option Addr} {n c : Nat} {z : List Int} (h : Ints K wi p n z) (hc : n ≤ c) (hm : c ≤ maxLen) (hb : Below wi.heap.size wi w) : RdS K w (.slice p n c) z := by
  obtain ⟨h1, h2, h3⟩ := h
  refine ⟨p, c, by rw [h1], by omega, hm, fun j x hj => ?_⟩
  have hl := (List.getElem?_eq_some_iff.1 hj).1
  obtain ⟨g, o, rfl, hg, hcl⟩ := h3 (by omega)
  refine ⟨g, o, rfl, ?_⟩
  rw [World.cell?_of_block (hb.block g hg), hcl j (by omega), List.getD_eq_getElem?_getD, hj]
  rfl
theorem rdr_take {K : IntKind} {w : World} {p : Option Addr} {n c m : Nat} {xs : List Int} (h : RdR K w (.slice p n c) xs) (hm : m ≤ n) : RdR K w (.slice p m c) (xs.take m) := by
  refine ⟨rds_take h.slice hm, fun g hg => h.lt g ?_⟩
  cases p with
  | none => cases hg
  | some a => exact hg
theorem rds_lit {K : IntKind} {T : TypeId} (w : World) (xs : List Int) (hl : xs.length ≤ maxLen) : RdS K (w.alloc (.cells (xs.map (Value.int K)).toArray T)) (.slice (some ⟨w.heap.size, 0, none⟩) xs.length xs.length) xs :=
  ⟨_, _, rfl, Nat.le_refl _, hl, fun j x hj => ⟨w.heap.size, 0, rfl, by
    rw [(Mem.new w T (xs.map (Value.int K)).toArray).cell]
    rw [Nat.zero_add, List.getElem?_toArray, List.getElem?_map, hj]
    rfl⟩⟩
/-! Boxes that read as lists. -/
def Agr (K : IntKind) (cur : Array Value) (V : List Int) : Prop := ∀ (j : Nat) (x : Int), V[j]? = some x → cur[j]? = some (.int K x)
theorem agr_set {K : IntKind} {cur : Array Value} {V : List Int} (h : Agr K cur V) (j : Nat) (x : Int) : Agr K (cur.setIfInBounds j (.int K x)) (V.set j x) := fun i y hi_ => by
  have hl := (List.getElem?_eq_some_iff.1 hi_).1
  rw [List.length_set] at hl
  have h0 := h i (V[i]'hl) (List.getElem?_eq_getElem hl)
  have hc := (Array.getElem?_eq_some_iff.1 h0).1
  rw [List.getElem?_set] at hi_
  rw [Array.getElem?_setIfInBounds]
  split
  · rename_i e
    subst e
    rw [if_pos rfl, if_pos hl] at hi_
    injection hi_ with hi_
    rw [if_pos hc, hi_]
  · rename_i e
    rw [if_neg e] at hi_
    exact h i y hi_
theorem rds_box {K : IntKind} {w : World} {g n c : Nat} {T : TypeId} {cur : Array Value} {V : List Int} (M : Mem w g T cur) (h : Agr K cur V) (hn : V.length = n) (hc : n ≤ c) (hm : c ≤ maxLen) : RdS K w (.slice (some ⟨g, 0, none⟩) n c) V :=
  ⟨_, c, by rw [hn], by omega, hm, fun j x hj => ⟨g, 0, rfl, by rw [Nat.zero_add, M.cell]; exact h j x hj⟩⟩
theorem own_low {w : World} {B n : Nat} {T : TypeId} {v : Value} {xs : List Value} (h : w.ownsRow B T 1 v n xs) : w.ownsRow 0 T 1 v n xs := by
  refine ⟨h.1, ?_⟩
  rcases h.2 with h2 | ⟨g, cap, cur, h1, h2, h3⟩
  · exact .inl h2
  · exact .inr ⟨g, cap, cur, h1, Nat.zero_le _, h3⟩
/-- A row of the call's own is seen as a box. -/
theorem Lo.asBox {w0 w : World} {lo hi b rb : Nat} {q : Cfg} {A B : Int → List Int} {ex : List Ob} {i : Nat} {K : IntKind} {T : TypeId} {v : Value} {V : List Int} (h : Lo w0 lo hi b rb q A B ex w) (he : ex[i]? = some (own K T v V)) (hV : 0 < V.length) : ∃ g c cur, v = .slice (some ⟨g, 0, none⟩) V.length c ∧ V.length ≤ c ∧ c ≤ maxLen ∧ Agr K cur V ∧ Lo w0 lo hi b rb q A B (ex.set i (bx g T cur)) w := by
  have ho : w.ownsRow 0 T 1 v V.length (V.map (Value.int K)) := h.is i _ he
  obtain ⟨Ao, co, hv, h1, h2⟩ := own_slice ho
  obtain ⟨g, c, cur, rfl, _, hm, _, hc⟩ := own_cells ho hV
  injection hv with _ _ hv3
  subst hv3
  refine ⟨g, c, cur, rfl, h1, h2, fun j x hj => ?_, h.see i he (o' := bx g T cur) hm fun g' hg' => ?_⟩
  · have hl := (List.getElem?_eq_some_iff.1 hj).1
    have := hc j (by omega)
    rw [List.getElem?_map, hj] at this
    rw [← Mem.cell hm j]
    exact this
  · rw [List.mem_singleton.1 hg']
    exact mem_blk (v := .slice (some ⟨g, 0, none⟩) V.length c) rfl
section
variable {w0 w : World} {lo hi b rb g i k : Nat} {q : Cfg} {A B : Int → List Int} {ex : List Ob} {v1 v2 : Value} {xs ys L1 L2 : List Int}
theorem x_box (h : Lo w0 lo hi b rb q A B ex w) (he : ex[i]? = some (wM g v1 v2 L1 L2)) : ∃ p c, v1 = .slice p L1.length c ∧ Mem w g TWr #[.slice p L1.length c, v2] := by
  obtain ⟨M, ⟨⟨⟨p, c, rfl, _⟩, _⟩, _⟩, _⟩ := h.is i _ he
  exact ⟨p, c, rfl, M⟩
theorem x_left (h : Lo w0 lo hi b rb q A B ex w) (he : ex[i]? = some (wM g v1 v2 L1 L2)) {z : Int} (hz : Hid ((L1.length : Int) = z)) : Calls Try.prog 36 #[.pointer (some ⟨g, 0, none⟩)] w fun e w' => e = .returned (.int .i64 z) ∧ w = w' := by
  obtain ⟨p, c, _, M⟩ := x_box h he
  have := wr_left M
  rw [hz.out] at this
  exact this
theorem x_done (h : Lo w0 lo hi b rb q A B ex w) (he : ex[i]? = some (wM g v1 v2 L1 L2)) {D : Bool} (hd : Hid (decide (L1.length = 0) = D)) : Calls Try.prog 34 #[.pointer (some ⟨g, 0, none⟩)] w fun e w' => e = .returned (.bool D) ∧ w = w' := by
  obtain ⟨p, c, _, M⟩ := x_box h he
  exact wr_done M hd.out
theorem x_over (h : Lo w0 lo hi b rb q A B ex w) (he : ex[i]? = some (wM g v1 v2 L1 L2)) (hd : L1.length = 0) : Calls Try.prog 37 #[.pointer (some ⟨g, 0, none⟩), .pointer (some ⟨b, 0, none⟩)] w fun e w' => e = .returned (accV 0 0 0 0 0 false) ∧ Lo w0 lo hi b rb q A B ex w' := by
  have hlen : i < ex.length := (List.getElem?_eq_some_iff.1 he).1
  have h2 := Lo.open2 h he
  have hr : Mem w g TWr #[v1, v2] := h2.isR 0 rfl
  obtain ⟨p, c, rfl, M⟩ := x_box h he
  have h3 : Lo w0 lo hi b rb q A B (ex.set i nob ++ ([bx g TWr #[.slice p L1.length c, v2]] ++ [joi (rd .i64 (.slice p L1.length c) L1) (rd .u64 v2 L2)])) w := h2
  refine (wr_over (decide_eq_true hd) h3.inX).mono ?_
  rintro e w' ⟨he', hL⟩
  have h5 : Lo w0 lo hi b rb q A B (ex.set i (wM g (.slice p L1.length c) v2 L1 L2)) w' := Lo.close2 hL.outX hlen
  rw [set_id he] at h5
  exact ⟨he', h5⟩
theorem x_go (h : Lo w0 lo hi b rb q A B ex w) (he : ex[i]? = some (wM g v1 v2 (xs.drop k) (ys.drop k))) (hx : LOk xs) (hxy : ys.length = xs.length) (hk : k < xs.length) (hV : (A 1).length = 8) : Calls Try.prog 37 #[.pointer (some ⟨g, 0, none⟩), .pointer (some ⟨b, 0, none⟩)] w fun e w' => e = .returned (accV 2 1 (wO xs k) ((A 1).getD (wO xs k) 0) (wY ys k) true) ∧ ∃ v1' v2', Lo w0 lo hi b rb q (upd A 1 (wO xs k) (wY ys k)) B (ex.set i (wM g v1' v2' (xs.drop (k + 1)) (ys.drop (k + 1)))) w' := by
  have hlen : i < ex.length := (List.getElem?_eq_some_iff.1 he).1
  obtain ⟨hat, ho8⟩ := hx.at_ hk
  have hyt := wY_at (ys := ys) (k := k) (by omega)
  have hdr : xs.drop k = (wO xs k : Int) :: xs.drop (k + 1) := by
    have e : xs[k]'hk = (wO xs k : Int) := by
      rw [List.getElem?_eq_getElem hk] at hat
      injection hat
    rw [← e]
    exact List.drop_eq_getElem_cons hk
  have hdy : ys.drop k = wY ys k :: ys.drop (k + 1) := by
    have hky : k < ys.length := by omega
    have e : ys[k]'hky = wY ys k := by
      rw [List.getElem?_eq_getElem hky] at hyt
      injection hyt
    rw [← e]
    exact List.drop_eq_getElem_cons hky
  have h3 := Lo.open3 h he
  have r1 : RdR .i64 w v1 (xs.drop k) := h3.isR 1 rfl
  have r2 : RdR .u64 w v2 (ys.drop k) := h3.isR 2 rfl
  rw [hdr] at r1 h3
  rw [hdy] at r2 h3
  obtain ⟨g1, o1, c1, rfl, hc1, _, _⟩ := r1.cell (by simp)
  obtain ⟨g2, o2, c2, rfl, hc2, _, _⟩ := r2.cell (by simp)
  have hn2 : (wY ys k :: ys.drop (k + 1)).length = ((wO xs k : Int) :: xs.drop (k + 1)).length := by simp [hxy]
  rw [hn2] at h3 hc2
  obtain ⟨n, hn⟩ : ∃ n, ((wO xs k : Int) :: xs.drop (k + 1)).length = n := ⟨_, rfl⟩
  have hn1 : 1 ≤ n := by rw [← hn]; simp
  rw [hn] at h3 hc1 hc2
  refine (wr_step hn1 hc1 hc2 (by rw [hV]; exact ho8) rfl h3).mono ?_
  rintro e w' ⟨he', v1', v2', hL⟩
  exact ⟨he', v1', v2', Lo.close3 hL hlen⟩
theorem x_step (h : Lo w0 lo hi b rb q A B ex w) (he : ex[i]? = some (wM g v1 v2 (xs.drop k) (ys.drop k))) (hx : LOk xs) (hxy : ys.length = xs.length) (hk : k ≤ xs.length) (hV : (A 1).length = 8) {k1 k2 k3 k4 k5 : Int} {d : Bool} (hac0 : Hid (acW xs ys k (A 1) = (k1, k2, k3, k4, k5, d))) {A' : Int → List Int} {k' : Nat} (hA0 : Hid (nA A xs ys k = A')) (hk0 : Hid (nK xs k = k')) : Calls Try.prog 37 #[.pointer (some ⟨g, 0, none⟩), .pointer (some ⟨b, 0, none⟩)] w fun e w' => e = .returned (accV k1 k2 k3 k4 k5 d) ∧ ∃ v1' v2', Lo w0 lo hi b rb q A' B (ex.set i (wM g v1' v2' (xs.drop k') (ys.drop k'))) w' := by
  have hac := hac0.out
  have hA := hA0.out
  have hk' := hk0.out
  clear hac0 hA0 hk0
  unfold acW at hac
  unfold nA at hA
  unfold nK at hk'
  by_cases hd : k = xs.length
  · rw [if_pos hd] at hac hA hk'
    obtain ⟨rfl, rfl, rfl, rfl, rfl, rfl⟩ := prod6 hac
    subst hA hk'
    exact (x_over h he (by rw [List.length_drop]; omega)).mono fun e w' ⟨he', hL⟩ => ⟨he', v1, v2, by rw [set_id he]; exact hL⟩
  · rw [if_neg hd] at hac hA hk'
    obtain ⟨rfl, rfl, rfl, rfl, rfl, rfl⟩ := prod6 hac
    subst hA hk'
    exact x_go h he hx hxy (by omega) hV
theorem x_new (h : Lo w0 lo hi b rb q A B ex w) (p1 p2 : Option Addr) (n1 n2 cap1 cap2 m : Nat) (xs ys : List Int) (hr1 : RdS .i64 w (.slice p1 n1 cap1) xs) (hr2 : RdS .u64 w (.slice p2 n2 cap2) ys) (hm : min n1 n2 = m) (hl : m ≤ 100) : Calls Try.prog 31 #[.slice p1 n1 cap1, .slice p2 n2 cap2] w fun e w' => ∃ g v1 v2, e = .returned (.pointer (some ⟨g, 0, none⟩)) ∧ Lo w0 lo hi b rb q A B (ex ++ [wM g v1 v2 ((xs.take m).drop 0) ((ys.take m).drop 0)]) w' := by
  refine (wr_new h p1 p2 n1 n2 cap1 cap2 m xs ys hr1 hr2 hm (by omega)).mono ?_
  rintro e w' ⟨g, A1, c1, A2, c2, he, hL⟩
  refine ⟨g, .slice A1 m c1, .slice A2 m c2, he, ?_⟩
  have h2 : Lo w0 lo hi b rb q A B (ex ++ [bx g TWr #[.slice A1 m c1, .slice A2 m c2], joi (rd .i64 (.slice A1 m c1) (xs.take m)) (rd .u64 (.slice A2 m c2) (ys.take m))]) w' := Lo.joinR (rs := [bx g TWr #[.slice A1 m c1, .slice A2 m c2], rd .i64 (.slice A1 m c1) (xs.take m)]) hL 1 rfl
  exact Lo.joinR (rs := [bx g TWr #[.slice A1 m c1, .slice A2 m c2]]) h2 0 rfl
/-! The reference's stores. -/
theorem y_box (h : Lo w0 lo hi b rb q A B ex w) (he : ex[i]? = some (sM g v1 v2 xs k)) : ∃ p c, v1 = .slice p xs.length c ∧ Mem w g TQs #[.int .i64 1, .slice p xs.length c, v2, .int .i64 k] := by
  obtain ⟨M, ⟨⟨p, c, rfl, _⟩, _⟩, _⟩ := h.is i _ he
  exact ⟨p, c, rfl, M⟩
theorem y_done (h : Lo w0 lo hi b rb q A B ex w) (he : ex[i]? = some (sM g v1 v2 xs k)) {D : Bool} (hd : Hid (decide (k = xs.length) = D)) : Calls Try.prog 35 #[.pointer (some ⟨g, 0, none⟩)] w fun e w' => e = .returned (.bool D) ∧ Lo w0 lo hi b rb q A B ex w' := by
  obtain ⟨p, c, _, M⟩ := y_box h he
  have hD : ((k : Int) == (xs.length : Int)) = D := by
    rw [← hd.out]
    by_cases e : k = xs.length
    · rw [decide_eq_true e, e]
      simp
    · rw [decide_eq_false e, beq_eq_false_iff_ne]
      omega
  have := qs_done M
  rw [hD] at this
  exact this.mono fun e w' ⟨he', n, hw⟩ => ⟨he', by rw [hw]; exact h.drewN n⟩
theorem y_cells (h : Lo w0 lo hi b rb q A B ex w) (he : ex[i]? = some (sM g v1 v2 xs k)) : w.cell? ⟨g, 1, none⟩ = some v1 ∧ w.cell? ⟨g, 3, none⟩ = some (.int .i64 k) := by
  obtain ⟨M, _, _⟩ := h.is i _ he
  exact ⟨M.cell 1, M.cell 3⟩
theorem y_step {p2 : Option Addr} {c2 : Nat} (h : Lo w0 lo hi b rb q A B ex w) (he : ex[i]? = some (sM g v1 (.slice p2 xs.length c2) xs k)) (hx : LOk xs) (hva : VA w0 p2 ys xs.length) (hk : k ≤ xs.length) (hV : (B 1).length = 8) {k1 k2 k3 k4 k5 : Int} {d : Bool} (hac0 : Hid (acW xs ys k (B 1) = (k1, k2, k3, k4, k5, d))) {B' : Int → List Int} {k' : Nat} (hA0 : Hid (nA B xs ys k = B')) (hk0 : Hid (nK xs k = k')) : Calls Try.prog 38 #[.pointer (some ⟨g, 0, none⟩), .pointer (some ⟨rb, 0, none⟩)] w fun e w' => e = .returned (accV k1 k2 k3 k4 k5 d) ∧ Lo w0 lo hi b rb q A B' (ex.set i (sM g v1 (.slice p2 xs.length c2) xs k')) w' := by
  have hac := hac0.out
  have hA := hA0.out
  have hk' := hk0.out
  clear hac0 hA0 hk0
  have hlen : i < ex.length := (List.getElem?_eq_some_iff.1 he).1
  have h2 := Lo.open2 h he
  have hr : RdR .i64 w v1 xs := h2.isR 1 rfl
  unfold acW at hac
  unfold nA at hA
  unfold nK at hk'
  by_cases hd : k = xs.length
  · rw [if_pos hd] at hac hA hk'
    obtain ⟨rfl, rfl, rfl, rfl, rfl, rfl⟩ := prod6 hac
    subst hA hk' hd
    obtain ⟨⟨p, c, rfl, _⟩, _⟩ := hr
    have h3 : Lo w0 lo hi b rb q A B (ex.set i nob ++ ([bx g TQs #[.int .i64 1, .slice p xs.length c, .slice p2 xs.length c2, .int .i64 xs.length]] ++ [rd .i64 (.slice p xs.length c) xs])) w := h2
    refine (qs_over h3.inX).mono ?_
    rintro e w' ⟨he', hL⟩
    exact ⟨he', Lo.close2 hL.outX hlen⟩
  · rw [if_neg hd] at hac hA hk'
    obtain ⟨rfl, rfl, rfl, rfl, rfl, rfl⟩ := prod6 hac
    subst hA hk'
    have hkl : k < xs.length := by omega
    obtain ⟨hat, ho8⟩ := hx.at_ hkl
    obtain ⟨gl, ol, c, rfl, hc1, hc2, _⟩ := hr.cell (by omega)
    obtain ⟨gv, ov, rfl, hvw⟩ := hva k hkl
    have hfew := hx.few
    refine (qs_step (by rw [hV]; exact ho8) rfl hkl (by omega) hat hvw h2).mono ?_
    rintro e w' ⟨he', hL⟩
    exact ⟨he', Lo.close2 hL hlen⟩
theorem y_new {p p2 : Option Addr} {n c n2 c2 m : Nat} (h : Lo w0 lo hi b rb q A B (ex ++ [rd .i64 (.slice p n c) xs]) w) (hn : xs.length = n) (hm : min n n2 = m) (hc : n2 ≤ c2) : Calls Try.prog 33 #[.int .i64 1, .slice p n c, .slice p2 n2 c2] w fun e w' => ∃ g, e = .returned (.pointer (some ⟨g, 0, none⟩)) ∧ Lo w0 lo hi b rb q A B (ex ++ [sM g (.slice p m c) (.slice p2 m c2) (xs.take m) 0]) w' := by
  have hr : RdR .i64 w (.slice p n c) xs := h.isR 0 rfl
  have hnc : n ≤ c := by
    obtain ⟨⟨p', c', e, h1, _⟩, _⟩ := hr
    injection e with e1 e2 e3
    subst e1 e2 e3
    exact h1
  have h1 : Lo w0 lo hi b rb q A B (ex ++ [rd .i64 (.slice p m c) (xs.take m)]) w := h.seeR 0 rfl (rdr_take (m := m) hr (by omega)) fun g' hg' => by
    cases p with
    | none => exact absurd hg' List.not_mem_nil
    | some a => exact hg'
  refine (qs_new h1 p p2 n n2 m c c2 hm (by omega) (by omega)).mono ?_
  rintro e w' ⟨g, he, hL⟩
  refine ⟨g, he, ?_⟩
  rw [List.append_assoc] at hL
  have h2 : Lo w0 lo hi b rb q A B (ex ++ [bx g TQs #[.int .i64 1, .slice p m c, .slice p2 m c2, .int .i64 0], rd .i64 (.slice p m c) (xs.take m)]) w' := hL.perm (List.Perm.append_left _ (List.Perm.swap ..))
  exact Lo.joinR (rs := [bx g TQs #[.int .i64 1, .slice p m c, .slice p2 m c2, .int .i64 0]]) h2 0 rfl
/-- The image of the program's cells: its data words. -/
theorem lo_imageD (h : Lo w0 lo hi b rb q A B ex w) (h3 : (A 3).length = 1) (h4 : (A 4).length = 1) (h5 : (A 5).length = 1) : Calls Try.prog 15 #[.pointer (some ⟨b, 0, none⟩)] w fun e w' => ∃ c t s vd vo vl vh vn, e = .returned (CelI.imgV vd vo c t s vl vh vn) ∧ w'.ownsRow w.heap.size TU 1 vd (A 1).length ((A 1).map (Value.int .u64)) ∧ Lo w0 lo hi b rb q A B ex w' := by
  obtain ⟨m1, m2, h1, h2, hm, ho⟩ := h.duo
  refine (CelY.m_image lo m1 w b A h1 _ _ _ (one_get h3) (one_get h4) (one_get h5)).mono ?_
  rintro e w' ⟨vd, vo, vl, vh, vn, he, ⟨hvd, hvo, _⟩, hI, hS⟩
  have := Duo.left h2 hm ho hI hS
  exact ⟨_, _, _, vd, vo, vl, vh, vn, he, hvd, h.cellsTo this.1 this.2⟩
theorem fld_data (vd vo vl vh vn : Value) (c t s : Int) (wx : World) : (Instr.field 39 (.agg #[vd, vo, .int .u64 c, .int .u64 t, .int .u64 s, vl, vh, vn]) 0).run Try.prog wx = .ok vd wx := by kernel_rfl
theorem lo_image8 (h : Lo w0 lo hi b rb q A B ex w) {V : List Int} (hV : A 1 = V) (h8 : V.length = 8) (hs : (A 3).length = 1 ∧ (A 4).length = 1 ∧ (A 5).length = 1) : Calls Try.prog 15 #[.pointer (some ⟨b, 0, none⟩)] w fun e w' => ∃ c t s gi oi ci vo vl vh vn, e = .returned (.agg #[.slice (some ⟨gi, oi, none⟩) 8 ci, vo, .int .u64 c, .int .u64 t, .int .u64 s, vl, vh, vn]) ∧ (∀ j x, V[j]? = some x → w'.cell? ⟨gi, oi + j, none⟩ = some (.int .u64 x)) ∧ Lo w0 lo hi b rb q A B ex w' := by
  refine (lo_imageD h hs.1 hs.2.1 hs.2.2).mono ?_
  rintro e w' ⟨c, t, s, vd, vo, vl, vh, vn, he, hvd, hL⟩
  rw [hV] at hvd
  obtain ⟨gi, oi, ci, rfl, _, _, hc⟩ := (rdr_own hvd).cell (by omega)
  rw [h8] at he
  exact ⟨c, t, s, gi, oi, ci, vo, vl, vh, vn, he, hc, hL⟩
end
abbrev q8 : Cfg := ⟨8, 4, 0, 0, 0, 0, 0, 6, 6, 0, 0, 0, false⟩
theorem q8_valid : Valid q8 := by unfold Valid; decide
theorem begun_eight {w0 w : World} {nt : Nat} {A : Int → List Int} {lo hi b rb : Nat} (h : BegunN w0 q8 nt A lo hi b rb w) : (A 1).length = 8 ∧ (A 3).length = 1 ∧ (A 4).length = 1 ∧ (A 5).length = 1 := by
  obtain ⟨⟨n, no, hn, hno, rfl⟩, _⟩ := h
  have h0 : blkV q8 = 0 := by decide
  have hn0 : n = 0 := by omega
  subst hn0
  refine ⟨?_, rfl, rfl, rfl⟩
  show (CelB.gen 8 ++ List.replicate 0 0).length = 8
  rw [List.length_append, CelB.gen_len, List.length_replicate]
theorem start_eight (nt : Nat) (z : Int) (hz : z = nt) (t1 : 1 ≤ nt) (t2 : nt ≤ 16) (w : World) : Calls Try.prog 28 #[cfgV q8, .int .i64 z] w fun e w' => ∃ A lo hi b rb, e = .returned (.tuple #[pairV b rb, .bool true]) ∧ BegunN w q8 nt A lo hi b rb w' := by
  subst hz
  exact l_startn q8 (Lib.hid q8_valid) nt t1 t2 w
/-- The further cells of one word stay. -/
def One (A : Int → List Int) : Prop := (A 1).length = 8 ∧ (A 3).length = 1 ∧ (A 4).length = 1 ∧ (A 5).length = 1
theorem one_nA {A : Int → List Int} {xs ys : List Int} {k : Nat} (h : One A) : One (nA A xs ys k) := by
  refine ⟨nA_len.trans h.1, ?_⟩
  unfold nA
  split
  · exact h.2
  · rw [upd_ne1 (by decide), upd_ne1 (by decide), upd_ne1 (by decide)]
    exact h.2
theorem one_upd {A : Int → List Int} {o : Nat} {x : Int} (h : One A) : One (upd A 1 o x) := by
  refine ⟨by rw [upd1, List.length_set]; exact h.1, ?_⟩
  rw [upd_ne1 (by decide), upd_ne1 (by decide), upd_ne1 (by decide)]
  exact h.2
end Go.Proofs.Ytfondhajedkmbaa.WrB
