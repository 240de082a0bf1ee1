/-
  Contracts of package program: valid, Commit.
-/
import Derived.Test.YthnhmclnfgkppaaDoorPgE
namespace Go.Proofs.YthnhmclnfgkppaaDoor.PgF
open Go.ChangeShapes Go.WideShapes Go.ChangeAt Go.RowKit Go.Shelf
open PlainT IsaE IsaS BlkW IsaA IsaB IsaF PrgS PrgC PgS PgA PgB PgT PgU PgC PgD PgE
set_option linter.unusedVariables false
attribute [local go_sem] Oper.semAt_some

theorem a_valid (A : Option Addr) (m c : Nat) (ps : List I5) (w : World) (hE : Env w) (hm : m ≤ c) (hmx : c ≤ maxLen) (hR : RowI w A m ps) (y : Bool) (hy : decide ((refChk ps).2 = 0) = y) :
    Calls Tryd.prog 26 #[.slice A m c] w fun e W' => e = .returned (.bool y) ∧ Below w.heap.size w W' := by
  obtain ⟨⟨u, v⟩, hv⟩ : ∃ q, refChk ps = q := ⟨_, rfl⟩
  have hc := a_check A m c ps w hE hm hmx hR
  rw [hv] at hc hy
  simp only at hc hy
  have HC := Lib.hid hc
  clear hc hv
  by_cases h0 : v = 0
  · subst h0
    have hy' : y = true := by rw [← hy]; rfl
    subst hy'
    clear hy
    go_enter Tryd.func26, Tryd.ntmps26
    go_wp2_with (go_at_call 9; refine HC.out.mono ?_; rintro e w1 ⟨rfl, hb1⟩; have HB1 := Lib.hid hb1; clear hb1)
    go_ret
    exact ⟨rfl, HB1.out⟩
  · have hy' : y = false := by rw [← hy]; exact decide_eq_false h0
    subst hy'
    have h1 : (v == 0) = false := beq_eq_false_iff_ne.2 h0
    clear hy h0
    go_enter Tryd.func26, Tryd.ntmps26
    go_wp2_with (go_at_call 9; refine HC.out.mono ?_; rintro e w1 ⟨rfl, hb1⟩; have HB1 := Lib.hid hb1; clear hb1)
    go_ret
    exact ⟨rfl, HB1.out⟩
/-- Does this transaction begin at k? -/
def isAt (k : Int) (t : Int × Int) : Bool := decide (t.1 = k)
def commitV (ps : List I5) (k : Int) : Int := if (refChk ps).2 ≠ 0 then -1 else match (txV ps).find? (isAt k) with
  | some t => t.2
  | none => -1
def NoneC (k : Int) (pre : List (Int × Int)) : Prop := ∀ y ∈ pre, isAt k y = false
def FoundC (k : Int) (g : Nat) (pre : List (Int × Int)) (W : World) : Prop := ∃ p0 x, pre = p0 ++ [x] ∧ isAt k x = true ∧ NoneC k p0 ∧ Mem W (g + 1) 3 #[.int .i64 x.2]
set_option maxRecDepth 100000 in
set_option maxHeartbeats 4000000 in
theorem commit_in (n : Nat) (hn : 3 ≤ n) (A : Option Addr) (m c : Nat) (ps : List I5) (k : Int) (w : World) (hE : Env w) (hm : m ≤ c) (hmx : c ≤ maxLen) (hR0 : RowI w A m ps) :
    CallsIn Fence.wide n Tryd.prog 10 #[.slice A m c, .int .i64 k] w fun e W' => e = .returned (.int .i64 (commitV ps k)) ∧ Below w.heap.size w W' := by
  have h1 : 1 ≤ n := by omega
  obtain ⟨v, hv⟩ : ∃ v, commitV ps k = v := ⟨_, rfl⟩
  rw [hv]
  unfold commitV at hv
  obtain ⟨y, hy⟩ : ∃ y, decide ((refChk ps).2 = 0) = y := ⟨_, rfl⟩
  have HR0 := Lib.hid hR0
  have m0 := (Mem.new w 3 #[.int .i64 k]).alloc (.cells #[.int .i64 0] 3)
  have m1 := mem_new1 w (.cells #[.int .i64 k] 3) 3 #[.int .i64 0]
  have hB0 := below_new2 w (.cells #[.int .i64 k] 3) (.cells #[.int .i64 0] 3)
  have hE0 := (hE.alloc (.cells #[.int .i64 k] 3)).alloc (.cells #[.int .i64 0] 3)
  have HVA := Lib.hid (a_valid A m c ps _ hE0 hm hmx (hR0.below hB0) y hy)
  have M0 := Lib.hid m0
  have M1 := Lib.hid m1
  have HB0 := Lib.hid hB0
  have HY := Lib.hid hy
  clear m0 m1 hB0 hE0 hE hR0 hy
  refine callsIn_of_wp_marks Tryd.func10 rfl trivial ?_ rfl
  simp only [Tryd.ntmps10, List.size_toArray, List.length_cons, List.length_nil, Nat.reduceAdd, Nat.reduceSub, Array.replicate_succ, Array.replicate_zero, List.push_toArray, List.append_toArray, List.nil_append, List.cons_append]
  cases y with
  | false =>
    have h0 := HY.out
    rw [if_pos (by intro h; rw [decide_eq_true h] at h0; cases h0)] at hv
    subst hv
    gi_wp2_with (refine ⟨trivial, ?_⟩; gi_at_call 26; refine (callsIn_wide.2 HVA.out).mono ?_; rintro e w1 ⟨rfl, hb1⟩; have P1 := Lib.hid (M1.out.below hb1 M1.out.lt); have c10 : w1.cell? ⟨w.heap.size + 1, 0, none⟩ = some (.int .i64 0) := P1.out.cell 0; have f10 := P1.out.frozen 0; have HB1 := Lib.hid (HB0.out.trans (hb1.mono HB0.out.size)); clear hb1)
    have r1 := (P1.out.set_ 0 (.int .i64 (-1))).cell 0
    refine ⟨.int .i64 (-1), ?_, rfl, HB1.out.setCell (by show w.heap.size ≤ w.heap.size + 1; omega) _⟩
    simp [results, Tryd.f10, go_sem, r1]
  | true =>
    have h0 := of_decide_eq_true HY.out
    rw [if_neg (fun h => h h0)] at hv
    have HV := Lib.hid hv
    clear hv h0
    gi_wp2_with (first
      | (refine ⟨trivial, ?_⟩; gi_at_call 26; refine (callsIn_wide.2 HVA.out).mono ?_; rintro e w1 ⟨rfl, hb1⟩; have N0 := Lib.hid (M0.out.below hb1 M0.out.lt); have N1 := Lib.hid (M1.out.below hb1 M1.out.lt); have HBW := Lib.hid (HB0.out.trans (hb1.mono HB0.out.size)); clear hb1)
      | (refine ⟨trivial, ?_⟩; gi_at_call 25; refine (trans_in _ _ _ _ _).mono ?_; rintro e w' ⟨rfl, rfl⟩))
    have P0 := Lib.hid (N0.out.alloc (.cells #[.slice A m c] 24))
    have P1 := Lib.hid (N1.out.alloc (.cells #[.slice A m c] 24))
    have P3 := Mem.new w1 24 #[.slice A m c]
    have HB1 := Lib.hid (HBW.out.alloc HBW.out.size (.cells #[.slice A m c] 24))
    have hs1 := size_new w1 (.cells #[.slice A m c] 24)
    have HGS := Lib.hid (show w.heap.size + 1 < w1.heap.size from N1.out.lt)
    obtain ⟨W1, hW1⟩ : ∃ W1, w1.alloc (.cells #[.slice A m c] 24) = W1 := ⟨_, rfl⟩
    rw [hW1] at P0 P1 P3 HB1 hs1 ⊢
    obtain ⟨gb, hgb⟩ : ∃ gb, w1.heap.size = gb := ⟨_, rfl⟩
    rw [hgb] at P3 hs1 HGS ⊢
    have HS1 := Lib.hid hs1
    clear hW1 hgb hs1
    refine wpIn_rangeFunc_ownH rfl h1 (gf := 53) (lb := #[.pointer (some ⟨gb, 0, none⟩)]) rfl trivial (enters_of Tryd.func53 (by kernel_rfl) rfl)
      (trans_stops (n - 1) (by omega) gb A m c ps w W1 hm hmx HR0.out HB1.out (P3.cell 0) (by have := HS1.out; omega)) belowK_t (belowK_b (Nat.le_refl _)) (Below.refl _ _) (fun _ => rfl)
      (fun pre W => NoneC k pre ∧ Below W1.heap.size W1 W)
      (fun c pre W => (c = .ret ∧ FoundC k w.heap.size pre W) ∧ Below w.heap.size w W)
      (OwnFrom.and (ownFrom_pure _ _) (ownFrom_below (Nat.le_refl _) (Nat.le_refl _)))
      (fun c => OwnFrom.and (Own.from (fun s X Y row hs hg hr => by
        obtain ⟨hc, p0, x, e1, e2, e3, e4⟩ := hs
        exact ⟨hc, p0, x, e1, e2, e3, mem_own _ _ (fun (_ : Unit) => #[.int .i64 x.2]) () X Y row e4 hg hr⟩) _) (ownFrom_below (Nat.le_refl _) HB1.out.size))
      ⟨(fun y hy => by cases hy), Below.refl _ _⟩
      (fun x a' W => ∃ Bx, W1.heap.size ≤ Bx ∧ Mem W Bx 65 #[.int .i64 x.1, .int .i64 x.2] ∧ a' = { tmps := #[.slice A m c, .int .i64 k, undef, .pointer (some ⟨w.heap.size, 0, none⟩), .pointer (some ⟨w.heap.size + 1, 0, none⟩), .pointer (some ⟨Bx, 0, none⟩), .slice A m c, .bool true, .bool false, .slice A m c, .func (.func 53) #[] #[.pointer (some ⟨gb, 0, none⟩)], .agg #[.int .i64 x.1, .int .i64 x.2], undef, undef, undef, undef, undef, undef], defers := [] })
      (fun x a' _ X Y row hs hg hr => by obtain ⟨Bx, e1, e2, e3⟩ := hs; exact ⟨Bx, e1, mem_own Bx _ (fun (_ : Unit) => #[.int .i64 x.1, .int .i64 x.2]) () X Y row e2 hg (fun r e => (hr r e).2), e3⟩)
      ?assign ?body ?done ?stop
    case assign =>
      rintro l pre x W K ⟨hp, hb⟩ hK
      gi_wp2
      exact hK _ _ ((KeepsOthers.alloc _ _).from _) ((Below.refl _ W).alloc hb.size _) ⟨hp, hb.alloc hb.size _⟩ ⟨W.heap.size, hb.size, Mem.new W _ _, rfl⟩
    case body =>
      rintro l pre x a' W hl ⟨r, hr⟩ ⟨hp, hb⟩ ⟨Bx, hBx, mX, rfl⟩ hlt
      have Q1 := Lib.hid (P1.out.below hb P1.out.lt)
      have cx0 : W.cell? ⟨Bx, 0, none⟩ = some (.int .i64 x.1) := mX.cell 0
      have cx1 : W.cell? ⟨Bx, 1, none⟩ = some (.int .i64 x.2) := mX.cell 1
      have cs : W.cell? ⟨w.heap.size, 0, none⟩ = some (.int .i64 k) := (P0.out.below hb P0.out.lt).cell 0
      by_cases t1 : x.1 = k
      · have c10 : W.cell? ⟨w.heap.size + 1, 0, none⟩ = some (.int .i64 0) := Q1.out.cell 0
        have f10 := Q1.out.frozen 0
        have HF := Lib.hid (show isAt k x = true from decide_eq_true t1)
        have t1' : (x.1 == k) = true := by rw [beq_iff_eq]; exact t1
        clear t1
        gi_wp2
        exact ⟨(KeepsOthers.setCell _ _ _).from _,
          ⟨rfl, pre, x, rfl, HF.out, hp, Q1.out.set_ 0 _⟩,
          (HB1.out.trans (hb.mono HB1.out.size)).setCell (by show w.heap.size ≤ w.heap.size + 1; omega) _⟩
      · have HF := Lib.hid (show isAt k x = false from decide_eq_false t1)
        have t1' : (x.1 == k) = false := beq_eq_false_iff_ne.2 t1
        clear t1
        gi_wp2
        exact ⟨KeepsFrom.refl _ _, Below.refl _ _, fun y hy => (List.mem_append.1 hy).elim (hp y) (fun e => by simp at e; subst e; exact HF.out), hb⟩
    case done =>
      rintro D ys W hD rfl ⟨hno, hb⟩ hK
      have Q1 := Lib.hid (P1.out.below hb P1.out.lt)
      have c10 : W.cell? ⟨w.heap.size + 1, 0, none⟩ = some (.int .i64 0) := Q1.out.cell 0
      have f10 := Q1.out.frozen 0
      have hla := HV.out
      rw [find_no hno] at hla
      simp only at hla
      subst hla
      clear hno
      gi_wp2
      have hK' := (KeepsOthers.setCell W ⟨w.heap.size + 1, 0, none⟩ (.int .i64 (-1))).same D _ hK rfl
      refine ⟨by simp, .inl ⟨_, _, rfl, run_takeDeferred hK', ?_⟩⟩
      have r1 := mem_put (Q1.out.set_ 0 (.int .i64 (-1))) hK' (.deferred none)
      have e1 := r1.cell 0
      refine ⟨.int .i64 (-1), ?_, rfl, ((HB1.out.trans (hb.mono HB1.out.size)).setCell (by show w.heap.size ≤ w.heap.size + 1; omega) _).trans (belowK_b (w := w) (Nat.le_refl _) _ D _ _ (by have := HB1.out.size; omega) hK' rfl rfl)⟩
      simp [results, Tryd.f10, go_sem, e1]
    case stop =>
      rintro D c' pre W hD hpre ⟨⟨rfl, p0, x, rfl, e1, e2, e3⟩, hB⟩ hK
      have hla := HV.out
      rw [find_at hpre e1 e2] at hla
      simp only at hla
      subst hla
      gi_wp2
      refine ⟨by simp, .inl ⟨_, _, rfl, run_takeDeferred hK, ?_⟩⟩
      have r1 := mem_put e3 hK (.deferred none)
      have c0 := r1.cell 0
      refine ⟨.int .i64 x.2, ?_, rfl, hB.trans (belowK_b (w := w) (Nat.le_refl _) W D _ _ (by have := HB1.out.size; omega) hK rfl rfl)⟩
      simp [results, Tryd.f10, go_sem, c0]
theorem a_commit (A : Option Addr) (m c : Nat) (ps : List I5) (k : Int) (w : World) (hE : Env w) (hm : m ≤ c) (hmx : c ≤ maxLen) (hR0 : RowI w A m ps) :
    Calls Tryd.prog 10 #[.slice A m c, .int .i64 k] w fun e W' => e = .returned (.int .i64 (commitV ps k)) ∧ Below w.heap.size w W' :=
  callsIn_wide.1 (commit_in 3 (by omega) A m c ps k w hE hm hmx hR0)
end Go.Proofs.YthnhmclnfgkppaaDoor.PgF
