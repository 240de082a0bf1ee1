/-
  Texts on no machine: the cells of both machines, and a list of objects beside them (boxes, rows, machines), each with the blocks that it lies in.
-/
import Derived.Test.YtpjbmbipkmpkhaaLabN
import Derived.Test.YtpjbmbipkmpkhaaRsA
namespace Go.Proofs.Ytpjbmbipkmpkhaa.ObjA
open Go.ChangeShapes Go.WideShapes Go.ChangeAt Go.RowKit
open PlainT BlkW LayS LayA LayK LayP CelS CelM CelP CelV CelN CelO CelI CelY CelF CelB LabD LabR LabP LabS LabX LabN RsA CelLo
set_option linter.unusedVariables false
set_option maxHeartbeats 1000000

/-- What lies in some blocks, and holds as long as they are not turned. -/
structure Ob where
  fp : List Nat
  is : World → Prop
  keep : ∀ {w w' : World}, is w → (∀ g ∈ fp, w'.heap[g]? = w.heap[g]?) → is w'
  lt : ∀ {w : World}, is w → ∀ g ∈ fp, g < w.heap.size
theorem lt_keep {w w' : World} {g : Nat} (h : g < w.heap.size) (k : w'.heap[g]? = w.heap[g]?) : g < w'.heap.size := by
  rw [Array.getElem?_eq_getElem h] at k
  exact (Array.getElem?_eq_some_iff.1 k).1
/-- A box. -/
def bx (g : Nat) (T : TypeId) (cs : Array Value) : Ob where
  fp := [g]
  is w := Mem w g T cs
  keep h k := (k g (List.mem_singleton.2 rfl)).trans h
  lt h x hx := by rw [List.mem_singleton.1 hx]; exact Mem.lt h
/-- Nothing. -/
def nob : Ob where
  fp := []
  is _ := True
  keep _ _ := trivial
  lt _ _ h := absurd h List.not_mem_nil
theorem mem_blk {v : Value} {g : Nat} (h : v.ownBlock = some g) : g ∈ v.ownBlock.toList := by rw [h]; exact List.mem_singleton.2 rfl
theorem blk_mem {v : Value} {g : Nat} (h : g ∈ v.ownBlock.toList) : v.ownBlock = some g := by
  cases e : v.ownBlock with
  | none => rw [e] at h; cases h
  | some x => rw [e] at h; simp at h; rw [h]
/-- A slice that reads as xs. -/
def RdS (k : IntKind) (w : World) (v : Value) (xs : List Int) : Prop := ∃ p cap, v = .slice p xs.length cap ∧ xs.length ≤ cap ∧ cap ≤ maxLen ∧ ∀ j x, xs[j]? = some x → ∃ g o, p = some ⟨g, o, none⟩ ∧ w.cell? ⟨g, o + j, none⟩ = some (.int k x)
theorem rds_below {k : IntKind} {w w' : World} {v : Value} {xs : List Int} (h : RdS k w v xs) (hb : Below w.heap.size w w') : RdS k w' v xs := by
  obtain ⟨p, cap, rfl, h1, h2, hc⟩ := h
  refine ⟨p, cap, rfl, h1, h2, fun j x hj => ?_⟩
  obtain ⟨g, o, rfl, hx⟩ := hc j x hj
  exact ⟨g, o, rfl, (World.cell?_of_block (hb.block g (World.block_lt_of_cell? _ _ hx))).trans hx⟩
/-- A slice that reads as xs, in a block that is there. -/
structure RdR (k : IntKind) (w : World) (v : Value) (xs : List Int) : Prop where
  slice : ∃ p cap, v = .slice p xs.length cap ∧ xs.length ≤ cap ∧ cap ≤ maxLen ∧ ∀ j x, xs[j]? = some x → ∃ g o, p = some ⟨g, o, none⟩ ∧ w.cell? ⟨g, o + j, none⟩ = some (.int k x)
  lt : ∀ g, v.ownBlock = some g → g < w.heap.size
theorem RdR.keep {k : IntKind} {w w' : World} {v : Value} {xs : List Int} (h : RdR k w v xs) (hk : ∀ g, v.ownBlock = some g → w'.heap[g]? = w.heap[g]?) : RdR k w' v xs := by
  obtain ⟨⟨p, cap, rfl, h1, h2, hc⟩, hl⟩ := h
  refine ⟨⟨p, cap, rfl, h1, h2, fun j x hj => ?_⟩, fun g hg => lt_keep (hl g hg) (hk g hg)⟩
  obtain ⟨g, o, rfl, hx⟩ := hc j x hj
  exact ⟨g, o, rfl, (World.cell?_of_block (hk g rfl)).trans hx⟩
def rd (k : IntKind) (v : Value) (xs : List Int) : Ob where
  fp := v.ownBlock.toList
  is w := RdR k w v xs
  keep h hk := RdR.keep h fun g hg => hk g (mem_blk hg)
  lt h g hg := RdR.lt h g (blk_mem hg)
/-- A row of the call's own. -/
def own (k : IntKind) (T : TypeId) (v : Value) (xs : List Int) : Ob where
  fp := v.ownBlock.toList
  is w := w.ownsRow 0 T 1 v xs.length (xs.map (Value.int k))
  keep h hk := own_of_block h fun g hg => hk g (mem_blk hg)
  lt h g hg := (World.ownsRow.lt h g (blk_mem hg)).2
theorem rdr_own {k : IntKind} {T : TypeId} {w : World} {B : Nat} {v : Value} {xs : List Int} (h : w.ownsRow B T 1 v xs.length (xs.map (Value.int k))) : RdR k w v xs := by
  refine ⟨?_, fun g hg => (World.ownsRow.lt h g hg).2⟩
  rcases Nat.eq_zero_or_pos xs.length with h0 | h0
  · obtain ⟨A, c, rfl, h1, h2⟩ := own_slice h
    exact ⟨A, c, rfl, h1, h2, fun j x hj => by
      have := (List.getElem?_eq_some_iff.1 hj).1
      omega⟩
  · obtain ⟨A, c, rfl, h1, h2⟩ := own_slice h
    obtain ⟨g, cap, cur, e, _, _, _, hc⟩ := own_cells h h0
    injection e with e1 e2 e3
    subst e1 e3
    refine ⟨_, _, rfl, h1, h2, fun j x hj => ⟨g, 0, rfl, ?_⟩⟩
    have hl := (List.getElem?_eq_some_iff.1 hj).1
    rw [Nat.zero_add, hc j (by omega), List.getElem?_map, hj]
    rfl
theorem RdR.cell {k : IntKind} {w : World} {v : Value} {xs : List Int} (h : RdR k w v xs) (hx : 0 < xs.length) : ∃ g o cap, v = .slice (some ⟨g, o, none⟩) xs.length cap ∧ xs.length ≤ cap ∧ cap ≤ maxLen ∧ ∀ j x, xs[j]? = some x → w.cell? ⟨g, o + j, none⟩ = some (.int k x) := by
  obtain ⟨⟨p, cap, rfl, h1, h2, hc⟩, hl⟩ := h
  obtain ⟨g, o, rfl, _⟩ := hc 0 (xs[0]'hx) (by rw [List.getElem?_eq_getElem])
  refine ⟨g, o, cap, rfl, h1, h2, fun j x hj => ?_⟩
  obtain ⟨g', o', e, hx⟩ := hc j x hj
  injection e with e
  injection e with e1 e2
  rw [e1, e2]
  exact hx
/-- The slice without its first element. -/
theorem RdR.tail {k : IntKind} {w : World} {p : Option Addr} {n cap : Nat} {x : Int} {xs : List Int} (h : RdR k w (.slice p n cap) (x :: xs)) (p' : Option Addr) (hp : cap ≠ 1 → p' = p.map fun a => a.add 1) (hn : ∀ g, p'.map Addr.block = some g → p.map Addr.block = some g) : RdR k w (.slice p' (n - 1) (cap - 1)) xs := by
  obtain ⟨⟨p2, cap2, e, h1, h2, hc⟩, hl⟩ := h
  injection e with e1 e2 e3
  subst e1 e2 e3
  rw [List.length_cons] at h1
  refine ⟨⟨p', cap - 1, by rw [List.length_cons, Nat.add_sub_cancel], by omega, by omega, fun j y hj => ?_⟩, fun g hg => hl g ?_⟩
  · have hj1 := (List.getElem?_eq_some_iff.1 hj).1
    obtain ⟨g, o, rfl, hy⟩ := hc (j + 1) y (by simpa using hj)
    refine ⟨g, o + 1, by rw [hp (by omega)]; simp [Addr.add], ?_⟩
    rw [← hy]
    congr 2
    omega
  · have h1 : p'.map Addr.block = some g := by
      cases p' with
      | none => cases hg
      | some a => simpa [Value.ownBlock] using hg
    have h2 := hn g h1
    cases p with
    | none => cases h2
    | some a => simpa [Value.ownBlock] using h2
/-- Two objects that have no block in common. -/
def joi (a b : Ob) : Ob where
  fp := a.fp ++ b.fp
  is w := a.is w ∧ b.is w ∧ ∀ g ∈ a.fp, g ∉ b.fp
  keep h k := ⟨a.keep h.1 fun g hg => k g (List.mem_append_left _ hg), b.keep h.2.1 fun g hg => k g (List.mem_append_right _ hg), h.2.2⟩
  lt h g hg := (List.mem_append.1 hg).elim (a.lt h.1 g) (b.lt h.2.1 g)
/-- The program's cells hold A, the reference's B; the objects beside them are what the list says. -/
structure Lo (w0 : World) (lo hi b rb : Nat) (q : Cfg) (A B : Int → List Int) (ex : List Ob) (w : World) : Prop where
  duo : Duo lo hi w b rb q A B
  is : ∀ (i : Nat) (o : Ob), ex[i]? = some o → o.is w
  hi_ : ∀ (i : Nat) (o : Ob), ex[i]? = some o → ∀ g ∈ o.fp, hi ≤ g
  nd : ∀ (i j : Nat) (a c : Ob), i ≠ j → ex[i]? = some a → ex[j]? = some c → ∀ g ∈ a.fp, g ∉ c.fp
  old : Below w0.heap.size w0 w
  lo_ : w0.heap.size ≤ lo
  le : lo ≤ hi
/-- The blocks from lo to hi, and those of an object. -/
def PO (lo hi : Nat) (o : Ob) (x : Nat) : Prop := (lo ≤ x ∧ x < hi) ∨ x ∈ o.fp
section
variable {w0 w w' : World} {lo hi b rb : Nat} {q : Cfg} {A B A' B' : Int → List Int} {ex : List Ob} {P : Nat → Prop} {g : Nat} {T : TypeId} {cs cs' : Array Value} {o o' : Ob} {i : Nat}
theorem Lo.begun (h : Begun w0 q A lo hi b rb w) : Lo w0 lo hi b rb q A A [] w :=
  ⟨h.2.2.1, fun _ _ he => by simp at he, fun _ _ he => by simp at he, fun _ _ _ _ _ he => by simp at he, h.2.2.2.2, h.2.2.2.1, duo_le h.2.2.1⟩
theorem Lo.begunN {nt : Nat} (h : BegunN w0 q nt A lo hi b rb w) : Lo w0 lo hi b rb q A A [] w :=
  ⟨h.2.1, fun _ _ he => by simp at he, fun _ _ he => by simp at he, fun _ _ _ _ _ he => by simp at he, h.2.2.2, h.2.2.1, duo_le h.2.1⟩
theorem Lo.lb (h : Lo w0 lo hi b rb q A B ex w) : Lb w0 lo hi b rb q A B [] w := ⟨h.duo, fun _ he => absurd he (List.not_mem_nil), List.nodup_nil, h.old, h.lo_, h.le⟩
theorem Lo.cfg (h : Lo w0 lo hi b rb q A B ex w) (j : Nat) (hj : j < 13) : w.cell? ⟨rb, j, none⟩ = (cells q)[j]? := h.lb.cfg j hj
theorem Lo.top (h : Lo w0 lo hi b rb q A B ex w) : hi ≤ w.heap.size := h.duo.top
/-- One object becomes another one; the cells may turn. -/
theorem Lo.step (h : Lo w0 lo hi b rb q A B ex w) (i : Nat) (he : ex[i]? = some o) (D : Duo lo hi w' b rb q A' B') (I : o'.is w') (F : Fr (PO lo hi o) w w') (hf : ∀ g ∈ o'.fp, g ∈ o.fp ∨ w.heap.size ≤ g) : Lo w0 lo hi b rb q A' B' (ex.set i o') w' := by
  have hlen : i < ex.length := (List.getElem?_eq_some_iff.1 he).1
  have hlo := h.lo_
  have hle := h.le
  have htop := h.top
  have hfar : ∀ (j : Nat) (c : Ob), i ≠ j → ex[j]? = some c → ∀ x ∈ c.fp, w'.heap[x]? = w.heap[x]? := fun j c hij hj x hx =>
    F.block x (c.lt (h.is j c hj) x hx) (by
      rintro (hp | hp)
      · have := h.hi_ j c hj x hx
        omega
      · exact h.nd i j o c hij he hj x hp hx)
  have hnew : ∀ (j : Nat) (c : Ob), i ≠ j → ex[j]? = some c → ∀ x ∈ o'.fp, x ∉ c.fp := fun j c hij hj x hx hc => by
    rcases hf x hx with h1 | h1
    · exact h.nd i j o c hij he hj x h1 hc
    · have := c.lt (h.is j c hj) x hc
      omega
  refine ⟨D, fun j c hj => ?_, fun j c hj x hx => ?_, fun j k a c hjk hj hk x hx hc => ?_, F.after h.old (fun x hx => ?_) (Nat.le_refl _), hlo, hle⟩
  · by_cases hij : i = j
    · subst hij
      rw [List.getElem?_set_self hlen] at hj
      cases hj
      exact I
    · rw [List.getElem?_set_ne hij] at hj
      exact c.keep (h.is j c hj) (hfar j c hij hj)
  · by_cases hij : i = j
    · subst hij
      rw [List.getElem?_set_self hlen] at hj
      cases hj
      rcases hf x hx with h1 | h1
      · exact h.hi_ i o he x h1
      · omega
    · rw [List.getElem?_set_ne hij] at hj
      exact h.hi_ j c hj x hx
  · by_cases hij : i = j
    · subst hij
      rw [List.getElem?_set_self hlen] at hj
      cases hj
      rw [List.getElem?_set_ne hjk] at hk
      exact hnew k c hjk hk x hx hc
    · rw [List.getElem?_set_ne hij] at hj
      by_cases hik : i = k
      · subst hik
        rw [List.getElem?_set_self hlen] at hk
        cases hk
        exact hnew j a hij hj x hc hx
      · rw [List.getElem?_set_ne hik] at hk
        exact h.nd j k a c hjk hj hk x hx hc
  · rcases hx with hx | hx
    · omega
    · have := h.hi_ i o he x hx
      omega
/-- The cells turn, no object. -/
theorem Lo.cellsTo (h : Lo w0 lo hi b rb q A B ex w) (D : Duo lo hi w' b rb q A' B') (S : Stay lo hi w w') : Lo w0 lo hi b rb q A' B' ex w' := by
  have htop := h.top
  exact ⟨D, fun j c hj => c.keep (h.is j c hj) fun x hx => S.block x (c.lt (h.is j c hj) x hx) (.inr (h.hi_ j c hj x hx)), h.hi_, h.nd, (Fr.of_stay (P := PI lo hi) S fun x a c => ⟨a, c⟩).after h.old (fun g hx => Nat.le_trans h.lo_ hx.1) (Nat.le_refl _), h.lo_, h.le⟩
theorem Lo.below (h : Lo w0 lo hi b rb q A B ex w) (k : Below w.heap.size w w') : Lo w0 lo hi b rb q A B ex w' := h.cellsTo (h.duo.below k) (Stay.of_below k)
theorem Lo.drewN (h : Lo w0 lo hi b rb q A B ex w) (n : Nat) : Lo w0 lo hi b rb q A B ex (w.drewN n) := h.below (below_drewN (Below.refl _ w) n)
theorem Lo.drew (h : Lo w0 lo hi b rb q A B ex w) : Lo w0 lo hi b rb q A B ex w.drew := h.drewN 1
theorem Lo.alloc (h : Lo w0 lo hi b rb q A B ex w) (x : Obj) : Lo w0 lo hi b rb q A B ex (w.alloc x) := h.below (below_new w x)
/-- A new object behind the others, in new blocks. -/
theorem Lo.add (h : Lo w0 lo hi b rb q A B ex w) (k : Below w.heap.size w w') (I : o.is w') (hf : ∀ g ∈ o.fp, w.heap.size ≤ g) : Lo w0 lo hi b rb q A B (ex ++ [o]) w' := by
  have h1 := h.below k
  have htop := h.top
  have key : ∀ (j : Nat) (c : Ob), (ex ++ [o])[j]? = some c → ex[j]? = some c ∨ (j = ex.length ∧ c = o) := fun j c hj => by
    rw [List.getElem?_append] at hj
    split at hj
    · exact .inl hj
    · rename_i hn
      have := (List.getElem?_eq_some_iff.1 hj).1
      simp at this
      have e : j = ex.length := by omega
      subst e
      simp at hj
      exact .inr ⟨rfl, hj.symm⟩
  have hnew : ∀ (j : Nat) (c : Ob), ex[j]? = some c → ∀ x ∈ c.fp, x ∉ o.fp := fun j c hj x hx hc => by
    have := hf x hc
    have := c.lt (h.is j c hj) x hx
    omega
  refine ⟨h1.duo, fun j c hj => ?_, fun j c hj x hx => ?_, fun j k a c hjk hj hk x hx hc => ?_, h1.old, h1.lo_, h1.le⟩
  · rcases key j c hj with h2 | ⟨rfl, rfl⟩
    · exact h1.is j c h2
    · exact I
  · rcases key j c hj with h2 | ⟨rfl, rfl⟩
    · exact h1.hi_ j c h2 x hx
    · exact Nat.le_trans htop (hf x hx)
  · rcases key j a hj with h2 | ⟨rfl, rfl⟩
    · rcases key k c hk with h3 | ⟨rfl, rfl⟩
      · exact h.nd j k a c hjk h2 h3 x hx hc
      · exact hnew j a h2 x hx hc
    · rcases key k c hk with h3 | ⟨rfl, _⟩
      · exact hnew k c h3 x hc hx
      · exact hjk rfl
theorem Lo.new (h : Lo w0 lo hi b rb q A B ex w) (T : TypeId) (cs : Array Value) : Lo w0 lo hi b rb q A B (ex ++ [bx w.heap.size T cs]) (w.alloc (.cells cs T)) :=
  h.add (below_new w _) (Mem.new w T cs) fun g hg => by rw [List.mem_singleton.1 hg]; exact Nat.le_refl _
/-- What stands behind is left out. -/
theorem Lo.drop {ex2 : List Ob} (h : Lo w0 lo hi b rb q A B (ex ++ ex2) w) : Lo w0 lo hi b rb q A B ex w := by
  have key : ∀ {j : Nat} {c : Ob}, ex[j]? = some c → (ex ++ ex2)[j]? = some c := fun hj => by
    rw [List.getElem?_append_left (List.getElem?_eq_some_iff.1 hj).1]
    exact hj
  exact ⟨h.duo, fun j c hj => h.is j c (key hj), fun j c hj => h.hi_ j c (key hj), fun j k a c hjk hj hk => h.nd j k a c hjk (key hj) (key hk), h.old, h.lo_, h.le⟩
theorem ex_left {ex2 : List Ob} (he : ex[i]? = some o) : (ex ++ ex2)[i]? = some o := by
  rw [List.getElem?_append_left (List.getElem?_eq_some_iff.1 he).1]
  exact he
theorem ex_last (ex : List Ob) (o : Ob) : (ex ++ [o])[ex.length]? = some o := by simp
theorem ex_set (he : ex[i]? = some o) (o' : Ob) : (ex.set i o')[i]? = some o' := List.getElem?_set_self (List.getElem?_eq_some_iff.1 he).1
theorem ex_ne {j : Nat} (h : i ≠ j) (o' : Ob) : (ex.set i o')[j]? = ex[j]? := List.getElem?_set_ne h
theorem set_left {ex2 : List Ob} (he : ex[i]? = some o) (o' : Ob) : (ex ++ ex2).set i o' = ex.set i o' ++ ex2 := List.set_append_left _ _ (List.getElem?_eq_some_iff.1 he).1
theorem Lo.box (h : Lo w0 lo hi b rb q A B ex w) (i : Nat) (he : ex[i]? = some (bx g T cs)) : hi ≤ g ∧ Mem w g T cs := ⟨h.hi_ i _ he g (List.mem_singleton.2 rfl), h.is i _ he⟩
theorem Lo.c (h : Lo w0 lo hi b rb q A B ex w) (i j : Nat) {v : Value} (he : ex[i]? = some (bx g T cs)) (hv : cs[j]? = some v) : w.cell? ⟨g, j, none⟩ = some v := ((h.box i he).2.cell j).trans hv
theorem Lo.z (h : Lo w0 lo hi b rb q A B ex w) (i j : Nat) (he : ex[i]? = some (bx g T cs)) : w.frozen? ⟨g, j, none⟩ = false := (h.box i he).2.frozen j
theorem Lo.blt (h : Lo w0 lo hi b rb q A B ex w) (i : Nat) (he : ex[i]? = some (bx g T cs)) : g < w.heap.size := (h.box i he).2.lt
/-- A box is turned. -/
theorem Lo.turn (h : Lo w0 lo hi b rb q A B ex w) (i : Nat) (he : ex[i]? = some (bx g T cs)) (D : Duo lo hi w' b rb q A' B') (M : Mem w' g T cs') (F : Fr (PG lo hi g) w w') : Lo w0 lo hi b rb q A' B' (ex.set i (bx g T cs')) w' :=
  h.step i he D M (F.wide fun x hx => hx.imp id fun e => List.mem_singleton.2 e) fun x hx => .inl hx
/-- A store into a box. -/
theorem Lo.put (h : Lo w0 lo hi b rb q A B ex w) (i j : Nat) (u : Value) (he : ex[i]? = some (bx g T cs)) : Lo w0 lo hi b rb q A B (ex.set i (bx g T (cs.setIfInBounds j u))) (w.setCell ⟨g, j, none⟩ u) :=
  have hg := (h.box i he).1
  h.turn i he (h.duo.set_ ⟨g, j, none⟩ (.inr hg) u) ((h.box i he).2.set_ j u) ((Fr.refl _ w).set_ ⟨g, j, none⟩ (.inl (.inr rfl)) u)
/-- An object is seen as another one in the same blocks. -/
theorem Lo.see (h : Lo w0 lo hi b rb q A B ex w) (i : Nat) (he : ex[i]? = some o) (I : o'.is w) (hf : ∀ g ∈ o'.fp, g ∈ o.fp) : Lo w0 lo hi b rb q A B (ex.set i o') w :=
  h.step i he h.duo I (Fr.refl _ w) fun g hg => .inl (hf g hg)
/-- An object is taken apart. -/
theorem Lo.part {o1 o2 : Ob} (h : Lo w0 lo hi b rb q A B ex w) (i : Nat) (he : ex[i]? = some (joi o1 o2)) : Lo w0 lo hi b rb q A B (ex.set i o1 ++ [o2]) w := by
  obtain ⟨I1, I2, hd⟩ := h.is i _ he
  have h1 := h.see i he (o' := o1) I1 fun g hg => List.mem_append_left _ hg
  have hlen : i < ex.length := (List.getElem?_eq_some_iff.1 he).1
  have key : ∀ (j : Nat) (c : Ob), (ex.set i o1 ++ [o2])[j]? = some c → (ex.set i o1)[j]? = some c ∨ (j = ex.length ∧ c = o2) := fun j c hj => by
    rw [List.getElem?_append] at hj
    split at hj
    · exact .inl hj
    · rename_i hn
      have := (List.getElem?_eq_some_iff.1 hj).1
      simp at this hn
      have e : j = ex.length := by omega
      subst e
      simp at hj
      exact .inr ⟨rfl, hj.symm⟩
  have hnew : ∀ (j : Nat) (c : Ob), (ex.set i o1)[j]? = some c → ∀ x ∈ c.fp, x ∉ o2.fp := fun j c hj x hx hc => by
    by_cases hij : i = j
    · subst hij
      rw [List.getElem?_set_self hlen] at hj
      cases hj
      exact hd x hx hc
    · rw [List.getElem?_set_ne hij] at hj
      exact h.nd i j _ c hij he hj x (List.mem_append_right _ hc) hx
  refine ⟨h1.duo, fun j c hj => ?_, fun j c hj x hx => ?_, fun j k a c hjk hj hk x hx hc => ?_, h1.old, h1.lo_, h1.le⟩
  · rcases key j c hj with h2 | ⟨rfl, rfl⟩
    · exact h1.is j c h2
    · exact I2
  · rcases key j c hj with h2 | ⟨rfl, rfl⟩
    · exact h1.hi_ j c h2 x hx
    · exact h.hi_ i _ he x (List.mem_append_right _ hx)
  · rcases key j a hj with h2 | ⟨rfl, rfl⟩
    · rcases key k c hk with h3 | ⟨rfl, rfl⟩
      · exact h1.nd j k a c hjk h2 h3 x hx hc
      · exact hnew j a h2 x hx hc
    · rcases key k c hk with h3 | ⟨rfl, _⟩
      · exact hnew k c h3 x hc hx
      · exact hjk rfl
/-- Two objects are taken as one: the last one goes to the one at i. -/
theorem Lo.join {o1 o2 : Ob} (h : Lo w0 lo hi b rb q A B (ex ++ [o2]) w) (i : Nat) (he : ex[i]? = some o1) : Lo w0 lo hi b rb q A B (ex.set i (joi o1 o2)) w := by
  have hlen : i < ex.length := (List.getElem?_eq_some_iff.1 he).1
  have hl : (ex ++ [o2])[ex.length]? = some o2 := ex_last ex o2
  have hi1 : (ex ++ [o2])[i]? = some o1 := ex_left he
  have hne : i ≠ ex.length := by omega
  have I : (joi o1 o2).is w := ⟨h.is i _ hi1, h.is _ _ hl, fun g hg => h.nd i _ _ _ hne hi1 hl g hg⟩
  have hd := h.drop
  refine ⟨h.duo, fun j c hj => ?_, fun j c hj x hx => ?_, fun j k a c hjk hj hk x hx hc => ?_, h.old, h.lo_, h.le⟩
  · by_cases hij : i = j
    · subst hij
      rw [List.getElem?_set_self hlen] at hj
      cases hj
      exact I
    · rw [List.getElem?_set_ne hij] at hj
      exact hd.is j c hj
  · by_cases hij : i = j
    · subst hij
      rw [List.getElem?_set_self hlen] at hj
      cases hj
      rcases List.mem_append.1 hx with hx | hx
      · exact h.hi_ i _ hi1 x hx
      · exact h.hi_ _ _ hl x hx
    · rw [List.getElem?_set_ne hij] at hj
      exact hd.hi_ j c hj x hx
  · by_cases hij : i = j
    · subst hij
      rw [List.getElem?_set_self hlen] at hj
      cases hj
      rw [List.getElem?_set_ne hjk] at hk
      rcases List.mem_append.1 hx with hx | hx
      · exact hd.nd i k _ c hjk he hk x hx hc
      · exact h.nd ex.length k _ c (by have := (List.getElem?_eq_some_iff.1 hk).1; omega) hl (ex_left hk) x hx hc
    · rw [List.getElem?_set_ne hij] at hj
      by_cases hik : i = k
      · subst hik
        rw [List.getElem?_set_self hlen] at hk
        cases hk
        rcases List.mem_append.1 hc with hc | hc
        · exact hd.nd j i a _ (Ne.symm hij) hj he x hx hc
        · exact h.nd j ex.length a _ (by have := (List.getElem?_eq_some_iff.1 hj).1; omega) (ex_left hj) hl x hx hc
      · rw [List.getElem?_set_ne hik] at hk
        exact hd.nd j k a c hjk hj hk x hx hc
end
/-! Both machines' operations on cells. -/
section
variable {w0 w : World} {lo hi b rb : Nat} {q : Cfg} {A B : Int → List Int} {ex : List Ob}
theorem lo_set (h : Lo w0 lo hi b rb q A A ex w) (k : Int) (hk : 1 ≤ k ∧ k ≤ 8) (i : Nat) (hi_ : i < (A k).length) (v : Int) :
    Calls Try.prog 19 #[pairV b rb, .int .i64 k, .int .i64 i, .int .u64 v] w fun e w' => e = .returned (.bool true) ∧ Lo w0 lo hi b rb q (upd A k i v) (upd A k i v) ex w' :=
  (p_set h.duo k hk i hi_ hi_ _ rfl rfl v).mono fun e w' hh => ⟨hh.1, h.cellsTo hh.2.1 hh.2.2⟩
theorem lo_same (h : Lo w0 lo hi b rb q A A ex w) : Calls Try.prog 29 #[pairV b rb] w fun e w' => e = .returned (.bool true) ∧ Lo w0 lo hi b rb q A A ex w' :=
  (p_same h.duo).mono fun e w' hh => ⟨hh.1, h.cellsTo hh.2.1 hh.2.2⟩
theorem lo_load (h : Lo w0 lo hi b rb q A B ex w) (k : Int) (hk : 1 ≤ k ∧ k ≤ 8) (i : Nat) (hlt : i < (A k).length) (x : Int) (hx : (A k).getD i 0 = x) : Calls Try.prog 70 #[.pointer (some ⟨b, 0, none⟩), .int .i64 k, .int .i64 i] w fun e w' => e = .returned (.tuple #[accV 1 k i x x true, .int .i64 0]) ∧ Lo w0 lo hi b rb q A B ex w' :=
  (d_load h.duo k hk i hlt x hx).mono fun e w' hh => ⟨hh.1, h.cellsTo hh.2.1 hh.2.2⟩
theorem lo_store (h : Lo w0 lo hi b rb q A B ex w) (k : Int) (hk : 1 ≤ k ∧ k ≤ 8) (i : Nat) (hlt : i < (A k).length) (x : Int) (hx : (A k).getD i 0 = x) (v : Int) : Calls Try.prog 72 #[.pointer (some ⟨b, 0, none⟩), .int .i64 k, .int .i64 i, .int .u64 v] w fun e w' => e = .returned (.tuple #[accV 2 k i x v true, .int .i64 0]) ∧ Lo w0 lo hi b rb q (upd A k i v) B ex w' :=
  (d_store h.duo k hk i hlt x hx v).mono fun e w' hh => ⟨hh.1, h.cellsTo hh.2.1 hh.2.2⟩
theorem lo_swap (h : Lo w0 lo hi b rb q A B ex w) (k : Int) (hk : 1 ≤ k ∧ k ≤ 8) (i : Nat) (hlt : i < (A k).length) (x : Int) (hx : (A k).getD i 0 = x) (o v p : Int) (d : Bool) (hp : Hid (p = if x = o then v else x)) (hd : Hid (d = decide (x = o))) : Calls Try.prog 67 #[.pointer (some ⟨b, 0, none⟩), .int .i64 k, .int .i64 i, .int .u64 o, .int .u64 v] w fun e w' => e = .returned (.tuple #[accV 3 k i x p d, .int .i64 0]) ∧ Lo w0 lo hi b rb q (upd A k i p) B ex w' := by
  obtain ⟨m1, m2, h1, h2, hm, ho⟩ := h.duo
  refine (CelO.m_swap lo m1 w b A h1 k hk i hlt x hx o v p d hp hd).mono ?_
  rintro e w' ⟨he, hI, hS⟩
  have := Duo.left h2 hm ho hI hS
  exact ⟨he, h.cellsTo this.1 this.2⟩
theorem ro_load (h : Lo w0 lo hi b rb q A B ex w) (k : Int) (hk : 1 ≤ k ∧ k ≤ 8) (i : Nat) (hlt : i < (B k).length) (x : Int) (hx : (B k).getD i 0 = x) : Calls Try.prog 71 #[.pointer (some ⟨rb, 0, none⟩), .int .i64 k, .int .i64 i] w fun e w' => e = .returned (accV 1 k i x x true) ∧ Lo w0 lo hi b rb q A B ex w' :=
  (s_load h.duo k hk i hlt x hx).mono fun e w' hh => ⟨hh.1, h.cellsTo hh.2.1 hh.2.2⟩
theorem ro_store (h : Lo w0 lo hi b rb q A B ex w) (k : Int) (hk : 1 ≤ k ∧ k ≤ 8) (i : Nat) (hlt : i < (B k).length) (x : Int) (hx : (B k).getD i 0 = x) (v : Int) : Calls Try.prog 73 #[.pointer (some ⟨rb, 0, none⟩), .int .i64 k, .int .i64 i, .int .u64 v] w fun e w' => e = .returned (accV 2 k i x v true) ∧ Lo w0 lo hi b rb q A (upd B k i v) ex w' :=
  (s_store h.duo k hk i hlt x hx v).mono fun e w' hh => ⟨hh.1, h.cellsTo hh.2.1 hh.2.2⟩
theorem ro_swap (h : Lo w0 lo hi b rb q A B ex w) (k : Int) (hk : 1 ≤ k ∧ k ≤ 8) (i : Nat) (hlt : i < (B k).length) (x : Int) (hx : (B k).getD i 0 = x) (o v p : Int) (d : Bool) (hp : Hid (p = if x = o then v else x)) (hd : Hid (d = decide (x = o))) : Calls Try.prog 74 #[.pointer (some ⟨rb, 0, none⟩), .int .i64 k, .int .i64 i, .int .u64 o, .int .u64 v] w fun e w' => e = .returned (accV 3 k i x p d) ∧ Lo w0 lo hi b rb q A (upd B k i p) ex w' := by
  obtain ⟨m1, m2, h1, h2, hm, ho⟩ := h.duo
  refine (r_swap m2 hi w rb q B h2 ho k hk i hlt x hx o v p d hp hd).mono ?_
  rintro e w' ⟨he, hI, hS⟩
  have := Duo.right h1 hm (upd_out hk ho) hI hS
  exact ⟨he, h.cellsTo this.1 this.2⟩
end
/-! Objects that stand behind others. -/
section
variable {w0 w w' : World} {lo hi b rb : Nat} {q : Cfg} {A B A' B' : Int → List Int} {X rs ex : List Ob} {g : Nat} {T : TypeId} {cs cs' : Array Value} {o o' : Ob} {i k : Nat}
theorem rs_at (he : rs[k]? = some o) : (X ++ rs)[X.length + k]? = some o := by
  rw [List.getElem?_append_right (by omega), Nat.add_sub_cancel_left]
  exact he
theorem rs_set : (X ++ rs).set (X.length + k) o = X ++ rs.set k o := by
  rw [List.set_append_right _ _ (by omega), Nat.add_sub_cancel_left]
theorem Lo.cR (h : Lo w0 lo hi b rb q A B (X ++ rs) w) (k j : Nat) {v : Value} (he : rs[k]? = some (bx g T cs)) (hv : cs[j]? = some v) : w.cell? ⟨g, j, none⟩ = some v := h.c _ j (rs_at he) hv
theorem Lo.zR (h : Lo w0 lo hi b rb q A B (X ++ rs) w) (k j : Nat) (he : rs[k]? = some (bx g T cs)) : w.frozen? ⟨g, j, none⟩ = false := h.z _ j (rs_at he)
theorem Lo.isR (h : Lo w0 lo hi b rb q A B (X ++ rs) w) (k : Nat) (he : rs[k]? = some o) : o.is w := h.is _ _ (rs_at he)
theorem Lo.memR (h : Lo w0 lo hi b rb q A B (X ++ rs) w) (k : Nat) (he : rs[k]? = some (bx g T cs)) : Mem w g T cs := h.is _ _ (rs_at he)
theorem Lo.rR (h : Lo w0 lo hi b rb q A B (X ++ rs) w) (k : Nat) {K : IntKind} {gl ol n c : Nat} {xs : List Int} {x : Int} (he : rs[k]? = some (rd K (.slice (some ⟨gl, ol, none⟩) n c) xs)) (j : Nat) (hx : xs[j]? = some x) : w.cell? ⟨gl, ol + j, none⟩ = some (.int K x) := by
  have hr : RdR K w (.slice (some ⟨gl, ol, none⟩) n c) xs := h.isR k he
  obtain ⟨⟨p, cap, e, _, _, hc⟩, _⟩ := hr
  injection e with e1 e2 e3
  obtain ⟨g', o', e, hy⟩ := hc j x hx
  rw [← e1] at e
  injection e with e
  injection e with e4 e5
  rw [e4, e5]
  exact hy
theorem Lo.newR (h : Lo w0 lo hi b rb q A B (X ++ rs) w) (T : TypeId) (cs : Array Value) : Lo w0 lo hi b rb q A B (X ++ (rs ++ [bx w.heap.size T cs])) (w.alloc (.cells cs T)) := by
  have := h.new T cs
  rwa [List.append_assoc] at this
theorem Lo.addR (h : Lo w0 lo hi b rb q A B (X ++ rs) w) (k : Below w.heap.size w w') (I : o.is w') (hf : ∀ g ∈ o.fp, w.heap.size ≤ g) : Lo w0 lo hi b rb q A B (X ++ (rs ++ [o])) w' := by
  have := h.add k I hf
  rwa [List.append_assoc] at this
theorem Lo.stepR (h : Lo w0 lo hi b rb q A B (X ++ rs) w) (k : Nat) (he : rs[k]? = some o) (D : Duo lo hi w' b rb q A' B') (I : o'.is w') (F : Fr (PO lo hi o) w w') (hf : ∀ g ∈ o'.fp, g ∈ o.fp ∨ w.heap.size ≤ g) : Lo w0 lo hi b rb q A' B' (X ++ rs.set k o') w' := by
  have := h.step _ (rs_at he) D I F hf
  rwa [rs_set] at this
theorem Lo.putR (h : Lo w0 lo hi b rb q A B (X ++ rs) w) (k j : Nat) (u : Value) (he : rs[k]? = some (bx g T cs)) (hc : cs.setIfInBounds j u = cs') : Lo w0 lo hi b rb q A B (X ++ rs.set k (bx g T cs')) (w.setCell ⟨g, j, none⟩ u) := by
  have := h.put _ j u (rs_at he)
  rwa [rs_set, hc] at this
theorem Lo.turnR (h : Lo w0 lo hi b rb q A B (X ++ rs) w) (k : Nat) (he : rs[k]? = some (bx g T cs)) (M : Mem w' g T cs') (F : Fr (fun x => x = g) w w') : Lo w0 lo hi b rb q A B (X ++ rs.set k (bx g T cs')) w' := by
  have hg := (h.box _ (rs_at he)).1
  exact h.stepR k he (h.duo.fr F fun x a c e => by omega) M (F.wide fun x hx => .inr (List.mem_singleton.2 hx)) fun x hx => .inl hx
theorem Lo.seeR (h : Lo w0 lo hi b rb q A B (X ++ rs) w) (k : Nat) (he : rs[k]? = some o) (I : o'.is w) (hf : ∀ g ∈ o'.fp, g ∈ o.fp) : Lo w0 lo hi b rb q A B (X ++ rs.set k o') w := by
  have := h.see _ (rs_at he) I hf
  rwa [rs_set] at this
theorem Lo.partR {o1 o2 : Ob} (h : Lo w0 lo hi b rb q A B (X ++ rs) w) (k : Nat) (he : rs[k]? = some (joi o1 o2)) : Lo w0 lo hi b rb q A B (X ++ (rs.set k o1 ++ [o2])) w := by
  have := h.part _ (rs_at he)
  rwa [rs_set, List.append_assoc] at this
theorem Lo.joinR {o1 o2 : Ob} (h : Lo w0 lo hi b rb q A B (X ++ (rs ++ [o2])) w) (k : Nat) (he : rs[k]? = some o1) : Lo w0 lo hi b rb q A B (X ++ rs.set k (joi o1 o2)) w := by
  rw [← List.append_assoc] at h
  have := h.join _ (rs_at he)
  rwa [rs_set] at this
theorem Lo.dropR {rs2 : List Ob} (h : Lo w0 lo hi b rb q A B (X ++ (rs ++ rs2)) w) : Lo w0 lo hi b rb q A B (X ++ rs) w := by
  rw [← List.append_assoc] at h
  exact h.drop
/-- An object is taken out of the list, and given back. -/
theorem Lo.take (h : Lo w0 lo hi b rb q A B ex w) (i : Nat) (he : ex[i]? = some o) : Lo w0 lo hi b rb q A B (ex.set i nob ++ [o]) w := by
  have h1 := h.see i he (o' := joi nob o) ⟨trivial, h.is i _ he, fun g hg => absurd hg List.not_mem_nil⟩ fun g hg => (List.mem_append.1 hg).elim (fun e => absurd e List.not_mem_nil) id
  have h2 := h1.part i (ex_set he _)
  rwa [List.set_set] at h2
theorem Lo.give (h : Lo w0 lo hi b rb q A B (ex.set i nob ++ [o]) w) (hi_ : i < ex.length) : Lo w0 lo hi b rb q A B (ex.set i o) w := by
  have h0 : (ex.set i nob)[i]? = some nob := List.getElem?_set_self hi_
  have h1 := h.join i h0
  rw [List.set_set] at h1
  have h2 : (ex.set i (joi nob o))[i]? = some (joi nob o) := List.getElem?_set_self hi_
  have h3 := h1.see i h2 (o' := o) (h1.is i _ h2).2.1 fun g hg => List.mem_append_right _ hg
  rwa [List.set_set] at h3
/-- An answer is stored into a box. -/
def six (w : World) (g : Nat) (v0 v1 v2 v3 v4 v5 : Value) : World := (((((w.setCell ⟨g, 0, none⟩ v0).setCell ⟨g, 1, none⟩ v1).setCell ⟨g, 2, none⟩ v2).setCell ⟨g, 3, none⟩ v3).setCell ⟨g, 4, none⟩ v4).setCell ⟨g, 5, none⟩ v5
theorem Lo.sixR {u0 u1 u2 u3 u4 u5 : Value} (h : Lo w0 lo hi b rb q A B (X ++ rs) w) (k : Nat) (he : rs[k]? = some (bx g T #[u0, u1, u2, u3, u4, u5])) (v0 v1 v2 v3 v4 v5 : Value) : Lo w0 lo hi b rb q A B (X ++ rs.set k (bx g T #[v0, v1, v2, v3, v4, v5])) (six w g v0 v1 v2 v3 v4 v5) := by
  have hk : k < rs.length := (List.getElem?_eq_some_iff.1 he).1
  have s : ∀ o : Ob, (rs.set k o)[k]? = some o := fun o => List.getElem?_set_self hk
  have h1 := h.putR k 0 v0 he (cs' := #[v0, u1, u2, u3, u4, u5]) (by simp)
  have h2 := h1.putR k 1 v1 (s _) (cs' := #[v0, v1, u2, u3, u4, u5]) (by simp)
  have h3 := h2.putR k 2 v2 (by rw [List.set_set]; exact s _) (cs' := #[v0, v1, v2, u3, u4, u5]) (by simp)
  have h4 := h3.putR k 3 v3 (by rw [List.set_set, List.set_set]; exact s _) (cs' := #[v0, v1, v2, v3, u4, u5]) (by simp)
  have h5 := h4.putR k 4 v4 (by rw [List.set_set, List.set_set, List.set_set]; exact s _) (cs' := #[v0, v1, v2, v3, v4, u5]) (by simp)
  have h6 := h5.putR k 5 v5 (by rw [List.set_set, List.set_set, List.set_set, List.set_set]; exact s _) (cs' := #[v0, v1, v2, v3, v4, v5]) (by simp)
  simp only [List.set_set] at h6
  exact h6
/-- A word is put at the end of a row of the call's own. -/
theorem Lo.pushU (h : Lo w0 lo hi b rb q A B (X ++ rs) w) (k : Nat) {v : Value} {xs : List Int} (he : rs[k]? = some (own .u64 TU v xs)) (hn : xs.length ≤ 300000) (x : Int) :
    ∃ Aa c w', (Builtin.append_ #[TR, TR] TR #[v, .slice (some ⟨w.heap.size, 0, none⟩) 1 1]).run Try.prog (w.alloc (.cells #[.int .u64 x] TU)) = .ok (.slice Aa (xs.length + 1) c) w' ∧ Lo w0 lo hi b rb q A B (X ++ rs.set k (own .u64 TU (.slice Aa (xs.length + 1) c) (xs ++ [x]))) w' := by
  have hown := h.isR k he
  obtain ⟨Aa, c, w', hr, ho, hb, hf, hat⟩ := push_u (B := 0) (Nat.zero_le _) hown hn x
  refine ⟨Aa, c, w', hr, ?_⟩
  have hvl : ∀ g, v.ownBlock = some g → hi ≤ g := fun g hg => h.hi_ _ _ (rs_at he) g (mem_blk hg)
  have F : Fr (PO lo hi (own .u64 TU v xs)) w w' := ⟨hb.os, hb.tape, hb.output, hb.size, fun g hg hp => hf g hg fun e => hp (.inr (mem_blk e))⟩
  refine h.stepR k he (h.duo.fr (P := fun x => v.ownBlock = some x) ⟨F.os, F.tape, F.output, F.size, fun g hg hp => hf g hg hp⟩ fun g h1 h2 e => by have := hvl g e; omega) ho F fun g hg => ?_
  rcases hat with hat | ⟨g', hat, hlt⟩
  · left
    have := blk_mem hg
    rw [hat] at this
    exact mem_blk this
  · right
    have := blk_mem hg
    rw [hat] at this
    injection this with this
    omega
end
theorem nd_iff {ex : List Ob} : (∀ (i j : Nat) (a c : Ob), i ≠ j → ex[i]? = some a → ex[j]? = some c → ∀ g ∈ a.fp, g ∉ c.fp) ↔ ex.Pairwise fun a c => ∀ g ∈ a.fp, g ∉ c.fp := by
  rw [List.pairwise_iff_getElem]
  constructor
  · intro h i j hi hj hij
    exact h i j _ _ (by omega) (List.getElem?_eq_getElem hi) (List.getElem?_eq_getElem hj)
  · intro h i j a c hne hi hj g hg hc
    obtain ⟨h1, rfl⟩ := List.getElem?_eq_some_iff.1 hi
    obtain ⟨h2, rfl⟩ := List.getElem?_eq_some_iff.1 hj
    rcases Nat.lt_or_ge i j with e | e
    · exact h i j h1 h2 e g hg hc
    · exact h j i h2 h1 (by omega) g hc hg
theorem Lo.perm {w0 w : World} {lo hi b rb : Nat} {q : Cfg} {A B : Int → List Int} {ex ex' : List Ob} (h : Lo w0 lo hi b rb q A B ex w) (k : ex.Perm ex') : Lo w0 lo hi b rb q A B ex' w := by
  have key : ∀ (i : Nat) (o : Ob), ex'[i]? = some o → ∃ j : Nat, ex[j]? = some o := fun i o hi => List.mem_iff_getElem?.1 (k.mem_iff.2 (List.mem_of_getElem? hi))
  refine ⟨h.duo, fun i o hi => ?_, fun i o hi => ?_, nd_iff.2 ((k.pairwise_iff (fun {a c} hac g hg hc => hac g hc hg)).1 (nd_iff.1 h.nd)), h.old, h.lo_, h.le⟩
  · obtain ⟨j, hj⟩ := key i o hi
    exact h.is j o hj
  · obtain ⟨j, hj⟩ := key i o hi
    exact h.hi_ j o hj
theorem Lo.inX {w0 w : World} {lo hi b rb : Nat} {q : Cfg} {A B : Int → List Int} {X rs rs2 : List Ob} (h : Lo w0 lo hi b rb q A B (X ++ (rs ++ rs2)) w) : Lo w0 lo hi b rb q A B ((X ++ rs2) ++ rs) w := by
  refine h.perm ?_
  rw [List.append_assoc]
  exact List.Perm.append_left _ List.perm_append_comm
theorem Lo.outX {w0 w : World} {lo hi b rb : Nat} {q : Cfg} {A B : Int → List Int} {X rs rs2 : List Ob} (h : Lo w0 lo hi b rb q A B ((X ++ rs2) ++ rs) w) : Lo w0 lo hi b rb q A B (X ++ (rs ++ rs2)) w := by
  refine h.perm ?_
  rw [List.append_assoc]
  exact List.Perm.append_left _ List.perm_append_comm
theorem Lo.open3 {w0 w : World} {lo hi b rb : Nat} {q : Cfg} {A B : Int → List Int} {ex : List Ob} {i : Nat} {o1 o2 o3 : Ob} (h : Lo w0 lo hi b rb q A B ex w) (he : ex[i]? = some (joi o1 (joi o2 o3))) : Lo w0 lo hi b rb q A B (ex.set i nob ++ [o1, o2, o3]) w := by
  have h1 := h.take i he
  have h2 : Lo w0 lo hi b rb q A B (ex.set i nob ++ [o1, joi o2 o3]) w := h1.partR 0 rfl
  exact h2.partR 1 rfl
theorem Lo.close3 {w0 w : World} {lo hi b rb : Nat} {q : Cfg} {A B : Int → List Int} {ex : List Ob} {i : Nat} {o1 o2 o3 : Ob} (h : Lo w0 lo hi b rb q A B (ex.set i nob ++ [o1, o2, o3]) w) (hi_ : i < ex.length) : Lo w0 lo hi b rb q A B (ex.set i (joi o1 (joi o2 o3))) w := by
  have h1 : Lo w0 lo hi b rb q A B (ex.set i nob ++ [o1, joi o2 o3]) w := Lo.joinR (rs := [o1, o2]) h 1 rfl
  have h2 : Lo w0 lo hi b rb q A B (ex.set i nob ++ [joi o1 (joi o2 o3)]) w := Lo.joinR (rs := [o1]) h1 0 rfl
  exact h2.give hi_
/-- The outcome of a call that leaves the cells as they are, and adds an object. -/
theorem rdr_below {K : IntKind} {w w' : World} {v : Value} {xs : List Int} (h : RdR K w v xs) (hb : Below w.heap.size w w') : RdR K w' v xs := h.keep fun g hg => hb.block g (h.lt g hg)
end Go.Proofs.Ytpjbmbipkmpkhaa.ObjA
