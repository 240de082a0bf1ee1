/-
  Contract of package program: around.
-/
import Derived.Test.YthnhmclnfgkppaaDoorPgA
namespace Go.Proofs.YthnhmclnfgkppaaDoor.PgB
open Go.ChangeShapes Go.WideShapes Go.ChangeAt Go.RowKit Go.Shelf
open PlainT BlkW PrgS PgS PgA
set_option linter.unusedVariables false
attribute [local go_sem] Oper.semAt_some

theorem Mem.kept {W W' : World} {row : Option Nat} {g : Nat} {t : TypeId} {cs : Array Value} (h : Mem W g t cs) (hg : W.grownBy W' row) (hne : some g ≠ row) : Mem W' g t cs := (hg.block g h.lt hne).trans h
theorem mem_own {β : Type} (g : Nat) (t : TypeId) (cs : β → Array Value) : Own (fun s W => Mem W g t (cs s)) := fun s X Y row hs hg hrow =>
  Mem.kept hs hg (fun e' => by obtain ⟨o, ho, hc⟩ := hrow g e'.symm; rw [show X.heap[g]? = _ from hs] at ho; cases ho; cases hc)
theorem mem_put {W : World} {g D : Nat} {t : TypeId} {cs : Array Value} {ds : Option (List Deferred)} (h : Mem W g t cs) (hK : W.heap[D]? = some (.deferred ds)) (o : Obj) : Mem (W.putObj D o) g t cs :=
  Mem.kept h (grownBy_putObj' _ D o) (fun e => by cases e; rw [show W.heap[g]? = _ from h] at hK; cases hK)
/-- None of these transactions holds position k. -/
def NoneIn (n k : Int) (pre : List (Int × Int)) : Prop := ∀ y ∈ pre, inTx n k y = false
/-- The last of these transactions is the first that holds position k, and it is laid in the two results. -/
def Found (n k : Int) (g : Nat) (pre : List (Int × Int)) (W : World) : Prop := ∃ p0 x, pre = p0 ++ [x] ∧ inTx n k x = true ∧ NoneIn n k p0 ∧ Mem W (g + 1 + 1) 65 #[.int .i64 x.1, .int .i64 x.2] ∧ Mem W (g + 1 + 1 + 1) 4 #[.bool true]
/-- What around returns. -/
def arE (o : Option (Int × Int)) : Ending := match o with
  | some t => .returned (.tuple #[.agg #[.int .i64 t.1, .int .i64 t.2], .bool true])
  | none => .returned (.tuple #[.agg #[.int .i64 0, .int .i64 0], .bool false])
set_option maxRecDepth 100000 in
set_option maxHeartbeats 4000000 in
theorem around_in (n : Nat) (hn : 3 ≤ n) (A : Option Addr) (m c : Nat) (ps : List I5) (k : Int) (w : World) (hm : m ≤ c) (hmx : c ≤ maxLen) (hR0 : RowI w A m ps) :
    CallsIn Fence.wide n Tryd.prog 49 #[.slice A m c, .int .i64 k] w fun e W' => e = arE (aroundV ps k) ∧ Below w.heap.size w W' := by
  have h1 : 1 ≤ n := by omega
  have hmx2 := hmx
  unfold maxLen at hmx2
  refine callsIn_of_wp_marks Tryd.func49 rfl trivial ?_ rfl
  simp only [Tryd.ntmps49, List.size_toArray, List.length_cons, List.length_nil, Nat.reduceAdd, Nat.reduceSub, Array.replicate_succ, Array.replicate_zero, List.push_toArray, List.append_toArray, List.nil_append, List.cons_append]
  gi_wp2_with (refine ⟨trivial, ?_⟩; gi_at_call 25; refine (trans_in (n - 1) _ _ _ _).mono ?_; rintro e w' ⟨rfl, rfl⟩)
  have m0 := ((((Mem.new w 24 #[.slice A m c]).alloc (.cells #[.int .i64 k] 3)).alloc (.cells #[.int .i64 0, .int .i64 0] 65)).alloc (.cells #[.bool false] 4)).alloc (.cells #[.slice A m c] 24)
  have m1 := (((mem_new1 w (.cells #[.slice A m c] 24) 3 #[.int .i64 k]).alloc (.cells #[.int .i64 0, .int .i64 0] 65)).alloc (.cells #[.bool false] 4)).alloc (.cells #[.slice A m c] 24)
  have m2 := ((mem_new2 w (.cells #[.slice A m c] 24) (.cells #[.int .i64 k] 3) 65 #[.int .i64 0, .int .i64 0]).alloc (.cells #[.bool false] 4)).alloc (.cells #[.slice A m c] 24)
  have m3 := (mem_new2 (w.alloc (.cells #[.slice A m c] 24)) (.cells #[.int .i64 k] 3) (.cells #[.int .i64 0, .int .i64 0] 65) 4 #[.bool false]).alloc (.cells #[.slice A m c] 24)
  have m4 := mem_new2 ((w.alloc (.cells #[.slice A m c] 24)).alloc (.cells #[.int .i64 k] 3)) (.cells #[.int .i64 0, .int .i64 0] 65) (.cells #[.bool false] 4) 24 #[.slice A m c]
  have hB0 := ((((below_new w (.cells #[.slice A m c] 24)).trans ((below_new _ (.cells #[.int .i64 k] 3)).mono (by rw [size_new]; omega))).trans ((below_new _ (.cells #[.int .i64 0, .int .i64 0] 65)).mono (by simp only [size_new]; omega))).trans ((below_new _ (.cells #[.bool false] 4)).mono (by simp only [size_new]; omega))).trans ((below_new _ (.cells #[.slice A m c] 24)).mono (by simp only [size_new]; omega))
  have hsz : (((((w.alloc (.cells #[.slice A m c] 24)).alloc (.cells #[.int .i64 k] 3)).alloc (.cells #[.int .i64 0, .int .i64 0] 65)).alloc (.cells #[.bool false] 4)).alloc (.cells #[.slice A m c] 24)).heap.size = w.heap.size + 5 := by simp only [size_new]
  simp only [size_new] at m3 m4
  obtain ⟨W0, hW0⟩ : ∃ W0, (((((w.alloc (.cells #[.slice A m c] 24)).alloc (.cells #[.int .i64 k] 3)).alloc (.cells #[.int .i64 0, .int .i64 0] 65)).alloc (.cells #[.bool false] 4)).alloc (.cells #[.slice A m c] 24)) = W0 := ⟨_, rfl⟩
  rw [hW0] at m0 m1 m2 m3 m4 hB0 hsz ⊢
  clear hW0
  refine wpIn_rangeFunc_ownH rfl h1 (gf := 53) (lb := #[.pointer (some ⟨w.heap.size + 1 + 1 + 1 + 1, 0, none⟩)]) rfl trivial (enters_of Tryd.func53 (by kernel_rfl) rfl)
    (trans_stops (n - 1) (by omega) (w.heap.size + 1 + 1 + 1 + 1) A m c ps w W0 hm hmx hR0 hB0 (m4.cell 0) (by omega)) belowK_t (belowK_b (Nat.le_refl _)) (Below.refl _ _) (fun _ => rfl)
    (fun pre W => NoneIn ps.length k pre ∧ Below W0.heap.size W0 W)
    (fun c pre W => (c = .ret ∧ Found ps.length k w.heap.size pre W) ∧ Below w.heap.size w W)
    (OwnFrom.and (ownFrom_pure _ _) (ownFrom_below (Nat.le_refl _) (Nat.le_refl _)))
    (fun c => OwnFrom.and (Own.from (fun s X Y row hs hg hr => by
      obtain ⟨hc, p0, x, e1, e2, e3, e4, e5⟩ := hs
      exact ⟨hc, p0, x, e1, e2, e3, mem_own _ _ (fun (_ : Unit) => #[.int .i64 x.1, .int .i64 x.2]) () X Y row e4 hg hr, mem_own _ _ (fun (_ : Unit) => #[.bool true]) () X Y row e5 hg hr⟩) _) (ownFrom_below (Nat.le_refl _) (by omega)))
    ⟨(fun y hy => by cases hy), Below.refl _ _⟩
    (fun x a' W => ∃ Bx, W0.heap.size ≤ Bx ∧ Mem W Bx 65 #[.int .i64 x.1, .int .i64 x.2] ∧ a' = { tmps := #[.slice A m c, .int .i64 k, .pointer (some ⟨w.heap.size, 0, none⟩), .pointer (some ⟨w.heap.size + 1, 0, none⟩), .pointer (some ⟨w.heap.size + 1 + 1, 0, none⟩), .pointer (some ⟨w.heap.size + 1 + 1 + 1, 0, none⟩), .pointer (some ⟨Bx, 0, none⟩), .slice A m c, .func (.func 53) #[] #[.pointer (some ⟨w.heap.size + 1 + 1 + 1 + 1, 0, none⟩)], .agg #[.int .i64 x.1, .int .i64 x.2], undef, undef, undef, undef, undef, undef, undef, undef, undef, undef, undef, undef, undef, undef, undef, undef, undef, undef], defers := [] })
    (fun x a' _ X Y row hs hg hr => by obtain ⟨Bx, e1, e2, e3⟩ := hs; exact ⟨Bx, e1, mem_own Bx _ (fun (_ : Unit) => #[.int .i64 x.1, .int .i64 x.2]) () X Y row e2 hg (fun r e => (hr r e).2), e3⟩)
    ?assign ?body ?done ?stop
  case assign =>
    rintro l pre x W K ⟨hp, hb⟩ hK
    gi_wp2
    exact hK _ _ ((KeepsOthers.alloc _ _).from _) ((Below.refl _ W).alloc hb.size _) ⟨hp, hb.alloc hb.size _⟩ ⟨W.heap.size, hb.size, Mem.new W _ _, rfl⟩
  case body =>
    rintro l pre x a' W hl ⟨r, hr⟩ ⟨hp, hb⟩ ⟨Bx, hBx, mX, rfl⟩ hlt
    have M2 := Lib.hid (m2.below hb (by omega))
    have M3 := Lib.hid (m3.below hb (by omega))
    have cx0 : W.cell? ⟨Bx, 0, none⟩ = some (.int .i64 x.1) := mX.cell 0
    have cx1 : W.cell? ⟨Bx, 1, none⟩ = some (.int .i64 x.2) := mX.cell 1
    have ck : W.cell? ⟨w.heap.size + 1, 0, none⟩ = some (.int .i64 k) := (m1.below hb (by omega)).cell 0
    have cs : W.cell? ⟨w.heap.size, 0, none⟩ = some (.slice A m c) := (m0.below hb (by omega)).cell 0
    have hlen := hR0.1
    have HL := Lib.hid hlen
    clear m0 m1 m2 m3 m4 hlen hsz
    have no : ∀ (h : inTx ps.length k x = false), NoneIn ps.length k (pre ++ [x]) := fun h y hy => (List.mem_append.1 hy).elim (hp y) (fun e => by simp at e; subst e; exact h)
    by_cases t1 : x.1 < k
    · by_cases t2 : k ≤ x.2
      · by_cases t3 : k < m
        · have c20 : W.cell? ⟨w.heap.size + 1 + 1, 0, none⟩ = some (.int .i64 0) := M2.out.cell 0
          have c21 : W.cell? ⟨w.heap.size + 1 + 1, 1, none⟩ = some (.int .i64 0) := M2.out.cell 1
          have c30 : W.cell? ⟨w.heap.size + 1 + 1 + 1, 0, none⟩ = some (.bool false) := M3.out.cell 0
          have f20 := M2.out.frozen 0
          have f21 := M2.out.frozen 1
          have f30 := M3.out.frozen 0
          have hyes : inTx ps.length k x = true := by unfold inTx; rw [HL.out]; simp [t1, t2, t3]
          have HF := Lib.hid hyes
          clear hyes
          gi_wp2
          exact ⟨((KeepsOthers.setCell _ _ _).trans ((KeepsOthers.setCell _ _ _).trans (KeepsOthers.setCell _ _ _))).from _,
            ⟨rfl, pre, x, rfl, HF.out, hp, ((M2.out.set_ 0 _).set_ 1 _).far (by show w.heap.size + 2 ≠ w.heap.size + 3; omega) _, ((M3.out.far (by show w.heap.size + 3 ≠ w.heap.size + 2; omega) _).far (by show w.heap.size + 3 ≠ w.heap.size + 2; omega) _).set_ 0 _⟩,
            (((hB0.trans (hb.mono hB0.size)).setCell (by show w.heap.size ≤ w.heap.size + 2; omega) _).setCell (by show w.heap.size ≤ w.heap.size + 2; omega) _).setCell (by show w.heap.size ≤ w.heap.size + 3; omega) _⟩
        · have hno := no (by unfold inTx; rw [HL.out]; simp [t3])
          gi_wp2
          exact ⟨KeepsFrom.refl _ _, Below.refl _ _, hno, hb⟩
      · have hno := no (by unfold inTx; simp [t2])
        gi_wp2
        exact ⟨KeepsFrom.refl _ _, Below.refl _ _, hno, hb⟩
    · have hno := no (by unfold inTx; simp [t1])
      gi_wp2
      exact ⟨KeepsFrom.refl _ _, Below.refl _ _, hno, hb⟩
  case done =>
    rintro D ys W hD rfl ⟨hno, hb⟩ hK
    have M2 := Lib.hid (m2.below hb (by omega))
    have M3 := Lib.hid (m3.below hb (by omega))
    have c20 : W.cell? ⟨w.heap.size + 1 + 1, 0, none⟩ = some (.int .i64 0) := M2.out.cell 0
    have c21 : W.cell? ⟨w.heap.size + 1 + 1, 1, none⟩ = some (.int .i64 0) := M2.out.cell 1
    have c30 : W.cell? ⟨w.heap.size + 1 + 1 + 1, 0, none⟩ = some (.bool false) := M3.out.cell 0
    have f20 := M2.out.frozen 0
    have f21 := M2.out.frozen 1
    have f30 := M3.out.frozen 0
    have HN := Lib.hid (find_no hno)
    clear m0 m1 m2 m3 m4 hno
    gi_wp2
    have hK' := ((KeepsOthers.setCell W ⟨w.heap.size + 1 + 1, 0, none⟩ (.int .i64 0)).trans ((KeepsOthers.setCell _ ⟨w.heap.size + 1 + 1, 1, none⟩ (.int .i64 0)).trans (KeepsOthers.setCell _ ⟨w.heap.size + 1 + 1 + 1, 0, none⟩ (.bool false)))).same D _ hK rfl
    refine ⟨by simp, .inl ⟨_, _, rfl, run_takeDeferred hK', ?_⟩⟩
    have r2 := mem_put (((M2.out.set_ 0 (.int .i64 0)).set_ 1 (.int .i64 0)).far (a := ⟨w.heap.size + 1 + 1 + 1, 0, none⟩) (by show w.heap.size + 2 ≠ w.heap.size + 3; omega) (.bool false)) hK' (.deferred none)
    have r3 := mem_put (((M3.out.far (a := ⟨w.heap.size + 1 + 1, 0, none⟩) (by show w.heap.size + 3 ≠ w.heap.size + 2; omega) (.int .i64 0)).far (a := ⟨w.heap.size + 1 + 1, 1, none⟩) (by show w.heap.size + 3 ≠ w.heap.size + 2; omega) (.int .i64 0)).set_ 0 (.bool false)) hK' (.deferred none)
    have e0 := r2.cell 0
    have e1 := r2.cell 1
    have e2 := r3.cell 0
    refine ⟨.tuple #[.agg #[.int .i64 0, .int .i64 0], .bool false], ?_, by unfold aroundV; rw [HN.out]; rfl, ((((hB0.trans (hb.mono hB0.size)).setCell (by show w.heap.size ≤ w.heap.size + 2; omega) _).setCell (by show w.heap.size ≤ w.heap.size + 2; omega) _).setCell (by show w.heap.size ≤ w.heap.size + 3; omega) _).trans (belowK_b (w := w) (Nat.le_refl _) _ D _ _ (by omega) hK' rfl rfl)⟩
    simp [results, Tryd.f49, go_sem, e0, e1, e2]
  case stop =>
    rintro D c pre W hD hpre ⟨⟨rfl, p0, x, rfl, e1, e2, e3, e4⟩, hB⟩ hK
    have HN := Lib.hid (find_at hpre e1 e2)
    gi_wp2
    refine ⟨by simp, .inl ⟨_, _, rfl, run_takeDeferred hK, ?_⟩⟩
    have r2 := mem_put e3 hK (.deferred none)
    have r3 := mem_put e4 hK (.deferred none)
    have c0 := r2.cell 0
    have c1 := r2.cell 1
    have c2 := r3.cell 0
    refine ⟨.tuple #[.agg #[.int .i64 x.1, .int .i64 x.2], .bool true], ?_, by unfold aroundV; rw [HN.out]; rfl, hB.trans (belowK_b (w := w) (Nat.le_refl _) W D _ _ (by omega) hK rfl rfl)⟩
    simp [results, Tryd.f49, go_sem, c0, c1, c2]
theorem a_around (A : Option Addr) (m c : Nat) (ps : List I5) (k : Int) (w : World) (hm : m ≤ c) (hmx : c ≤ maxLen) (hR0 : RowI w A m ps) :
    Calls Tryd.prog 49 #[.slice A m c, .int .i64 k] w fun e W' => e = arE (aroundV ps k) ∧ Below w.heap.size w W' :=
  callsIn_wide.1 (around_in 3 (by omega) A m c ps k w hm hmx hR0)
end Go.Proofs.YthnhmclnfgkppaaDoor.PgB
