/-
  Contract of the reference of layer 8: New.
-/
import Derived.Test.YtpjbmbipkmpkhaaCelV
import Derived.Test.YtpjbmbipkmpkhaaCelN
import Derived.Test.YtpjbmbipkmpkhaaLayP
import Derived.Deep.RegionLaw
import Derived.BigRegion
namespace Go.Proofs.Ytpjbmbipkmpkhaa.CelF
open Go.ChangeShapes Go.WideShapes Go.ChangeAt Go.RowKit
open PlainT BlkW LayS LayA LayC LayD LayF LayH CelS CelM CelV CelL CelN
set_option linter.unusedVariables false
set_option maxHeartbeats 1000000

abbrev TRef : TypeId := 45
abbrev nilS : Value := .slice none 0 0
/-- The reference's struct, cell by cell. -/
abbrev box (q : Cfg) (d o : Value) (c t s : Int) (sl h n : Value) : Array Value := #[.int .i64 q.w, .int .i64 q.o, .int .i64 q.b, .int .i64 q.c0, .int .i64 q.c1, .int .i64 q.c2, .int .i64 q.c3, .int .i64 q.r, .int .i64 q.t, .int .i64 q.a, .int .i64 q.f, .int .i64 q.k, .bool q.s, d, o, .int .u64 c, .int .u64 t, .int .u64 s, sl, h, n]
theorem build_ref (q : Cfg) (w : World) : (Instr.build TRef #[(0, cfgV q)]).run Try.prog w = .ok (.agg (box q nilS nilS 0 0 0 nilS nilS nilS)) w := by kernel_rfl
/-- The struct and its five rows; the rows' places in the struct. -/
def pos (k : Nat) : Nat := if k = 0 then 13 else if k = 1 then 14 else if k = 2 then 18 else if k = 3 then 19 else 20
abbrev boxV (q : Cfg) (c t s : Int) (V : Nat → Value) : Array Value := box q (V 0) (V 1) c t s (V 2) (V 3) (V 4)
structure R (lo rb : Nat) (q : Cfg) (c t s : Int) (V : Nat → Value) (X : Nat → List Int) (w : World) : Prop where
  bx : Mem w rb TRef (boxV q c t s V)
  own : ∀ k, k < 5 → OwnU w lo (V k) (X k)
  ap : ∀ j k, j < 5 → k < 5 → j ≠ k → ∀ g, (V j).ownBlock = some g → (V k).ownBlock ≠ some g
  low : lo ≤ rb
def up {α : Type} (f : Nat → α) (k : Nat) (v : α) : Nat → α := fun j => if j = k then v else f j
theorem up_self {α : Type} (f : Nat → α) (k : Nat) (v : α) : up f k v k = v := if_pos rfl
theorem up_ne {α : Type} (f : Nat → α) {k j : Nat} (v : α) (h : j ≠ k) : up f k v j = f j := if_neg h
theorem box_up (q : Cfg) (c t s : Int) (V : Nat → Value) (k : Nat) (hk : k < 5) (v : Value) : (boxV q c t s V).setIfInBounds (pos k) v = boxV q c t s (up V k v) := by
  have : k = 0 ∨ k = 1 ∨ k = 2 ∨ k = 3 ∨ k = 4 := by omega
  rcases this with rfl | rfl | rfl | rfl | rfl <;> rfl
theorem box_get (q : Cfg) (c t s : Int) (V : Nat → Value) (k : Nat) (hk : k < 5) : (boxV q c t s V)[pos k]? = some (V k) := by
  have : k = 0 ∨ k = 1 ∨ k = 2 ∨ k = 3 ∨ k = 4 := by omega
  rcases this with rfl | rfl | rfl | rfl | rfl <;> rfl
section
variable {lo rb : Nat} {q : Cfg} {c t s : Int} {V : Nat → Value} {X : Nat → List Int} {w w' : World}
theorem R.row_ne (h : R lo rb q c t s V X w) {k : Nat} (hk : k < 5) : (V k).ownBlock ≠ some rb := own_ne_mem (h.own k hk) h.bx (by decide)
theorem R.of_blocks (h : R lo rb q c t s V X w) (hb : w'.heap[rb]? = w.heap[rb]?) (hr : ∀ k, k < 5 → ∀ g, (V k).ownBlock = some g → w'.heap[g]? = w.heap[g]?) : R lo rb q c t s V X w' :=
  ⟨hb.trans h.bx, fun k hk => own_of_block (h.own k hk) (hr k hk), h.ap, h.low⟩
theorem R.row_lt (h : R lo rb q c t s V X w) {k g : Nat} (hk : k < 5) (hg : (V k).ownBlock = some g) : lo ≤ g ∧ g < w.heap.size := (h.own k hk).lt g hg
theorem R.below (h : R lo rb q c t s V X w) (hb : Below w.heap.size w w') : R lo rb q c t s V X w' :=
  h.of_blocks (hb.block rb h.bx.lt) fun k hk g hg => hb.block g (h.row_lt hk hg).2
theorem R.drewN (h : R lo rb q c t s V X w) (n : Nat) : R lo rb q c t s V X (w.drewN n) := h.of_blocks rfl fun _ _ _ _ => rfl
theorem R.alloc (h : R lo rb q c t s V X w) (o : Obj) : R lo rb q c t s V X (w.alloc o) := h.below (below_new w o)
/-- A row is put in its place. -/
theorem R.place (h : R lo rb q c t s V X w) {k : Nat} (hk : k < 5) {w1 : World} {v : Value} {x : List Int} (hb : w1.heap[rb]? = w.heap[rb]?) (hr : ∀ j, j < 5 → j ≠ k → ∀ g, (V j).ownBlock = some g → w1.heap[g]? = w.heap[g]?) (ho : OwnU w1 lo v x)
    (hap : ∀ g, v.ownBlock = some g → (V k).ownBlock = some g ∨ w.heap.size ≤ g) : R lo rb q c t s (up V k v) (up X k x) (w1.setCell ⟨rb, pos k, none⟩ v) := by
  have hm : Mem w1 rb TRef (boxV q c t s V) := hb.trans h.bx
  refine ⟨?_, fun j hj => ?_, fun i j hi hj hne g hg => ?_, h.low⟩
  · have := hm.set_ (pos k) v
    rwa [box_up q c t s V k hk v] at this
  · by_cases e : j = k
    · subst e
      rw [up_self, up_self]
      exact own_far ho (own_ne_mem ho hm (by decide)) v
    · rw [up_ne _ _ e, up_ne _ _ e]
      exact own_far (own_of_block (h.own j hj) (hr j hj e)) (h.row_ne hj) v
  · by_cases ei : i = k
    · subst ei
      rw [up_self] at hg
      rw [up_ne _ _ (Ne.symm hne)]
      intro hg2
      rcases hap g hg with h1 | h1
      · exact h.ap i j hi hj hne g h1 hg2
      · have := (h.row_lt hj hg2).2
        omega
    · rw [up_ne _ _ ei] at hg
      by_cases ej : j = k
      · subst ej
        rw [up_self]
        intro hg2
        rcases hap g hg2 with h1 | h1
        · exact h.ap i j hi hj hne g hg h1
        · have := (h.row_lt hi hg).2
          omega
      · rw [up_ne _ _ ej]
        exact h.ap i j hi hj hne g hg
/-- A row grows by one word. -/
theorem R.push (h : R lo rb q c t s V X w) {k : Nat} (hk : k < 5) (hl : (X k).length ≤ 1000) (hlo : lo ≤ w.heap.size) (x : Int) : ∃ A cp w1, (Builtin.append_ #[TR, TR] TR #[V k, .slice (some ⟨w.heap.size, 0, none⟩) 1 1]).run Try.prog (w.alloc (.cells #[.int .u64 x] TU)) = .ok (.slice A ((X k).length + 1) cp) w1 ∧
    w1.cell? ⟨rb, pos k, none⟩ = some (V k) ∧ w1.frozen? ⟨rb, pos k, none⟩ = false ∧ Below lo w w1 ∧ (∀ g2, g2 < w.heap.size → (V k).ownBlock ≠ some g2 → w1.heap[g2]? = w.heap[g2]?) ∧ R lo rb q c t s (up V k (.slice A ((X k).length + 1) cp)) (up X k (X k ++ [x])) (w1.setCell ⟨rb, pos k, none⟩ (.slice A ((X k).length + 1) cp)) := by
  obtain ⟨A, cp, w1, hrun, hown, hbel, hfar, hat⟩ := push_u hlo (h.own k hk) (by omega) x
  have hb : w1.heap[rb]? = w.heap[rb]? := hfar rb h.bx.lt (h.row_ne hk)
  have hm : Mem w1 rb TRef (boxV q c t s V) := hb.trans h.bx
  refine ⟨A, cp, w1, hrun, (hm.cell _).trans (box_get q c t s V k hk), hm.frozen _, hbel, hfar, h.place hk hb (fun j hj hne g hg => hfar g (h.row_lt hj hg).2 (fun e => h.ap j k hj hk hne g hg e)) hown (fun g hg => ?_)⟩
  rcases hat with e | ⟨g', e, hg'⟩
  · exact .inl (e ▸ hg)
  · rw [e] at hg
    injection hg with hg
    exact .inr (hg ▸ hg')
/-- A row is made. -/
theorem R.make (h : R lo rb q c t s V X w) {k : Nat} (hk : k < 5) (hlo : lo ≤ w.heap.size) (n : Nat) (hn : n ≤ 1000) : (w.alloc (.cells (U (List.replicate n 0)) TU)).cell? ⟨rb, pos k, none⟩ = some (V k) ∧ (w.alloc (.cells (U (List.replicate n 0)) TU)).frozen? ⟨rb, pos k, none⟩ = false ∧
    R lo rb q c t s (up V k (.slice (some ⟨w.heap.size, 0, none⟩) n n)) (up X k (List.replicate n 0)) ((w.alloc (.cells (U (List.replicate n 0)) TU)).setCell ⟨rb, pos k, none⟩ (.slice (some ⟨w.heap.size, 0, none⟩) n n)) := by
  have hm := h.bx.alloc (.cells (U (List.replicate n 0)) TU)
  have ho : OwnU (w.alloc (.cells (U (List.replicate n 0)) TU)) lo (.slice (some ⟨w.heap.size, 0, none⟩) n n) (List.replicate n 0) := by
    have := World.ownsRow_lit w (U (List.replicate n 0)) (base := lo) (e := TU) (size := 1) n hlo (by unfold maxLen; omega) (by simp [U_size])
    unfold OwnU us
    rw [List.length_replicate]
    simpa [U] using this
  refine ⟨(hm.cell _).trans (box_get q c t s V k hk), hm.frozen _, h.place hk (BlkW.heap_alloc_old _ _ _ h.bx.lt) (fun j hj hne g hg => BlkW.heap_alloc_old _ _ _ (h.row_lt hj hg).2) ho (fun g hg => ?_)⟩
  simp [Value.ownBlock] at hg
  exact .inr (by omega)
end
theorem R.new {lo : Nat} (w : World) (hlo : lo ≤ w.heap.size) (q : Cfg) : R lo w.heap.size q 0 0 0 (fun _ => nilS) (fun _ => []) (w.alloc (.cells (boxV q 0 0 0 fun _ => nilS) TRef)) :=
  ⟨Mem.new _ _ _, fun k hk => ⟨rfl, .inl ⟨rfl, rfl⟩⟩, fun j k _ _ _ g hg => by simp [Value.ownBlock] at hg, hlo⟩
/-- What stands while New runs. -/
structure St (w0 : World) (rb : Nat) (q : Cfg) (V : Nat → Value) (X : Nat → List Int) (w : World) : Prop where
  cfg : Mem w w0.heap.size TC (cells q)
  r : R w0.heap.size rb q 0 0 0 V X w
  lt : w0.heap.size < rb
  old : Below w0.heap.size w0 w
section
variable {w0 w w' : World} {rb : Nat} {q : Cfg} {V : Nat → Value} {X : Nat → List Int}
theorem St.drewN (h : St w0 rb q V X w) (n : Nat) : St w0 rb q V X (w.drewN n) := ⟨h.cfg, h.r.drewN n, h.lt, below_drewN h.old n⟩
theorem St.below (h : St w0 rb q V X w) (k : Below w.heap.size w w') : St w0 rb q V X w' := ⟨h.cfg.below k h.cfg.lt, h.r.below k, h.lt, below_trans2 h.old k⟩
theorem St.push (h : St w0 rb q V X w) {k : Nat} (hk : k < 5) (hl : (X k).length ≤ 1000) (x : Int) : ∃ A cp w1, (Builtin.append_ #[TR, TR] TR #[V k, .slice (some ⟨w.heap.size, 0, none⟩) 1 1]).run Try.prog (w.alloc (.cells #[.int .u64 x] TU)) = .ok (.slice A ((X k).length + 1) cp) w1 ∧
    w.cell? ⟨rb, pos k, none⟩ = some (V k) ∧ w1.cell? ⟨rb, pos k, none⟩ = some (V k) ∧ w1.frozen? ⟨rb, pos k, none⟩ = false ∧ St w0 rb q (up V k (.slice A ((X k).length + 1) cp)) (up X k (X k ++ [x])) (w1.setCell ⟨rb, pos k, none⟩ (.slice A ((X k).length + 1) cp)) := by
  obtain ⟨A, cp, w1, hrun, hcell, hfro, hbel, hfar, hR⟩ := h.r.push hk hl h.old.size x
  refine ⟨A, cp, w1, hrun, (h.r.bx.cell _).trans (box_get q 0 0 0 V k hk), hcell, hfro, ?_, hR, h.lt, ?_⟩
  · exact Mem.far ((hfar w0.heap.size h.cfg.lt (own_ne_mem (h.r.own k hk) h.cfg (by decide))).trans h.cfg) (a := ⟨rb, pos k, none⟩) (by have := h.lt; show w0.heap.size ≠ rb; omega) _
  · exact (h.old.trans hbel).setCell (by have := h.lt; show w0.heap.size ≤ rb; omega) _
theorem St.make (h : St w0 rb q V X w) {k : Nat} (hk : k < 5) (n : Nat) (hn : n ≤ 1000) : (w.alloc (.cells (U (List.replicate n 0)) TU)).cell? ⟨rb, pos k, none⟩ = some (V k) ∧ (w.alloc (.cells (U (List.replicate n 0)) TU)).frozen? ⟨rb, pos k, none⟩ = false ∧
    St w0 rb q (up V k (.slice (some ⟨w.heap.size, 0, none⟩) n n)) (up X k (List.replicate n 0)) ((w.alloc (.cells (U (List.replicate n 0)) TU)).setCell ⟨rb, pos k, none⟩ (.slice (some ⟨w.heap.size, 0, none⟩) n n)) := by
  obtain ⟨h1, h2, h3⟩ := h.r.make hk h.old.size n hn
  refine ⟨h1, h2, ?_, h3, h.lt, ?_⟩
  · exact Mem.far (h.cfg.alloc _) (a := ⟨rb, pos k, none⟩) (by have := h.lt; show w0.heap.size ≠ rb; omega) _
  · exact (h.old.alloc h.old.size _).setCell (by have := h.lt; show w0.heap.size ≤ rb; omega) _
end
/-- The first links. -/
def nxA (q : Cfg) (j : Nat) : List Int := (List.range j).map fun b : Nat => nxv q b
theorem nxA_step (q : Cfg) (j : Nat) : nxA q (j + 1) = nxA q j ++ [nxv q j] := by simp [nxA, List.range_succ]
theorem nxA_len (q : Cfg) (j : Nat) : (nxA q j).length = j := by simp [nxA]
theorem nxA_full (q : Cfg) (n : Nat) : nxA q n = nxL q n := rfl
/-- The heads of the first k classes. -/
def hdr (q : Cfg) (c : Nat) : Int := if 0 < LayA.cnt q c then pre q c + 1 else 0
def hdR (q : Cfg) (k : Nat) : List Int := (List.range k).map (hdr q)
theorem hdR_step (q : Cfg) (k : Nat) : hdR q (k + 1) = hdR q k ++ [hdr q k] := by simp [hdR, List.range_succ]
theorem hdR_len (q : Cfg) (k : Nat) : (hdR q k).length = k := by simp [hdR]
theorem hdR_full {q : Cfg} (h : Valid q) {n : Nat} (hn : q.c0 + q.c1 + q.c2 + q.c3 = n) : hdR q 4 = hdL q n := by
  unfold Valid at h
  have e : ∀ c, c = 0 ∨ c = 1 ∨ c = 2 ∨ c = 3 → hdr q c = hdv q n c := by
    intro c hc
    unfold hdr hdv
    by_cases hp : 0 < LayA.cnt q c
    · rw [if_pos hp, if_pos ⟨by rcases hc with rfl | rfl | rfl | rfl <;> simp only [pre, LayA.cnt] at * <;> omega, hp⟩]
    · rw [if_neg hp, if_neg (fun h => hp h.2)]
  show [hdr q 0, hdr q 1, hdr q 2, hdr q 3] = _
  rw [e 0 (by omega), e 1 (by omega), e 2 (by omega), e 3 (by omega)]
  rfl
/-- The reference's cells: struct rb, its rows, all from lo to hi; A k: the values of the cells of kind k. -/
structure Ref (lo hi : Nat) (w : World) (rb : Nat) (q : Cfg) (A : Int → List Int) (V : Nat → Value) (X : Nat → List Int) (c t s : Int) : Prop where
  r : R lo rb q c t s V X w
  bIn : rb < hi
  rIn : ∀ k, k < 5 → ∀ g, (V k).ownBlock = some g → g < hi
  top : hi ≤ w.heap.size
  a1 : A 1 = X 0
  a2 : A 2 = X 1
  a3 : A 3 = [c]
  a4 : A 4 = [t]
  a5 : A 5 = [s]
  a6 : A 6 = X 2
  a7 : A 7 = X 3
  a8 : A 8 = X 4
def RefIs (lo hi : Nat) (w : World) (rb : Nat) (q : Cfg) (A : Int → List Int) : Prop := ∃ V X c t s, Ref lo hi w rb q A V X c t s
theorem Ref.of_blocks {lo hi rb : Nat} {w w' : World} {q : Cfg} {A : Int → List Int} {V : Nat → Value} {X : Nat → List Int} {c t s : Int} (h : Ref lo hi w rb q A V X c t s) (hs : hi ≤ w'.heap.size) (hb : ∀ x, lo ≤ x → x < hi → w'.heap[x]? = w.heap[x]?) : Ref lo hi w' rb q A V X c t s :=
  ⟨h.r.of_blocks (hb rb h.r.low h.bIn) (fun k hk g hg => hb g (h.r.row_lt hk hg).1 (h.rIn k hk g hg)), h.bIn, h.rIn, hs, h.a1, h.a2, h.a3, h.a4, h.a5, h.a6, h.a7, h.a8⟩
theorem RefIs.stay {lo hi rb lo' hi' : Nat} {w w' : World} {q : Cfg} {A : Int → List Int} (h : RefIs lo hi w rb q A) (k : Stay lo' hi' w w') (hd : hi ≤ lo' ∨ hi' ≤ lo) : RefIs lo hi w' rb q A := by
  obtain ⟨V, X, c, t, s, h⟩ := h
  exact ⟨V, X, c, t, s, h.of_blocks (Nat.le_trans h.top k.size) fun x h1 h2 => k.block x (Nat.lt_of_lt_of_le h2 h.top) (by omega)⟩
theorem RefIs.below {lo hi rb : Nat} {w w' : World} {q : Cfg} {A : Int → List Int} (h : RefIs lo hi w rb q A) (k : Below w.heap.size w w') : RefIs lo hi w' rb q A := by
  obtain ⟨V, X, c, t, s, h⟩ := h
  exact ⟨V, X, c, t, s, h.of_blocks (Nat.le_trans h.top k.size) fun x h1 h2 => k.block x (Nat.lt_of_lt_of_le h2 h.top)⟩
theorem RefIs.top {lo hi rb : Nat} {w : World} {q : Cfg} {A : Int → List Int} (h : RefIs lo hi w rb q A) : hi ≤ w.heap.size := by
  obtain ⟨V, X, c, t, s, h⟩ := h
  exact h.top
theorem St.ends {w0 w : World} {rb : Nat} {q : Cfg} {V : Nat → Value} {X : Nat → List Int} {n no nt : Nat} {xs : List Int} (h : St w0 rb q V X w) (h0 : X 0 = xs ++ List.replicate n 0) (h1 : X 1 = List.replicate no 0) (h2 : X 2 = List.replicate nt 0) (h3 : X 3 = hdL q n) (h4 : X 4 = nxL q n) :
    RefIs w0.heap.size w.heap.size w rb q (A0 q n no nt xs) :=
  ⟨V, X, 0, 0, 0, h.r, h.r.bx.lt, fun k hk g hg => (h.r.row_lt hk hg).2, Nat.le_refl _, h0.symm, h1.symm, rfl, rfl, rfl, h2.symm, h3.symm, h4.symm⟩
end Go.Proofs.Ytpjbmbipkmpkhaa.CelF
