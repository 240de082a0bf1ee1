/-
  Contract of package program: Check.
-/
import Derived.Test.YthnhmclnfgkppaaDoorPgD
namespace Go.Proofs.YthnhmclnfgkppaaDoor.PgE
open Go.ChangeShapes Go.WideShapes Go.ChangeAt Go.RowKit Go.Shelf
open PlainT IsaE IsaS BlkW IsaA IsaB IsaF PrgS PrgC PgS PgA PgB PgT PgU PgC PgD
set_option linter.unusedVariables false
attribute [local go_sem] Oper.semAt_some

/-- None of these transactions lasts to the end. -/
def NoneL (n : Int) (pre : List (Int × Int)) : Prop := ∀ y ∈ pre, isLast n y = false
/-- The last of these transactions is the first that lasts to the end, and the results are laid. -/
def FoundL (n : Int) (g : Nat) (pre : List (Int × Int)) (W : World) : Prop := ∃ p0 x, pre = p0 ++ [x] ∧ isLast n x = true ∧ NoneL n p0 ∧ Mem W (g + 1) 3 #[.int .i64 x.1] ∧ Mem W (g + 1 + 1) 26 #[.int .i64 43]
set_option maxRecDepth 100000 in
set_option maxHeartbeats 4000000 in
theorem check_in (n : Nat) (hn : 3 ≤ n) (A : Option Addr) (m c : Nat) (ps : List I5) (w : World) (hE : Env w) (hm : m ≤ c) (hmx : c ≤ maxLen) (hR0 : RowI w A m ps) :
    CallsIn Fence.wide n Tryd.prog 9 #[.slice A m c] w fun e W' => e = .returned (.tuple #[.int .i64 (refChk ps).1, .int .i64 (refChk ps).2]) ∧ Below w.heap.size w W' := by
  have h1 : 1 ≤ n := by omega
  have hmx2 := hmx
  unfold maxLen at hmx2
  have hl := hR0.1
  obtain ⟨⟨u, v⟩, hv⟩ : ∃ q, refChk ps = q := ⟨_, rfl⟩
  rw [hv]
  unfold refChk at hv
  rw [hl] at hv
  by_cases h64 : 64 < m
  · rw [if_pos h64] at hv
    injection hv with e1 e2
    subst e1 e2
    clear hl
    refine callsIn_of_wp_marks Tryd.func9 rfl trivial ?_ rfl
    simp only [Tryd.ntmps9, List.size_toArray, List.length_cons, List.length_nil, Nat.reduceAdd, Nat.reduceSub, Array.replicate_succ, Array.replicate_zero, List.push_toArray, List.append_toArray, List.nil_append, List.cons_append]
    gi_wp2
    refine ⟨.tuple #[.int .i64 0, .int .i64 3], ?_, rfl, below_new3 _ _ _ _⟩
    simp [results, Tryd.f9, go_sem]
  · rw [if_neg h64] at hv
    have HV := Lib.hid (show chkGo ps (ps.drop 0) 0 (oOf false 0) = (u, v) from hv)
    have HL := Lib.hid hl
    have HR0 := Lib.hid hR0
    clear hv hl hR0
    have hm64 : m ≤ 64 := by omega
    have m0 := ((Mem.new w 24 #[.slice A m c]).alloc (.cells #[.int .i64 0] 3)).alloc (.cells #[.int .i64 0] 26)
    have m1 := (mem_new1 w (.cells #[.slice A m c] 24) 3 #[.int .i64 0]).alloc (.cells #[.int .i64 0] 26)
    have m2 := mem_new2 w (.cells #[.slice A m c] 24) (.cells #[.int .i64 0] 3) 26 #[.int .i64 0]
    have hB0 := below_new3 w (.cells #[.slice A m c] 24) (.cells #[.int .i64 0] 3) (.cells #[.int .i64 0] 26)
    have hE0 := ((hE.alloc (.cells #[.slice A m c] 24)).alloc (.cells #[.int .i64 0] 3)).alloc (.cells #[.int .i64 0] 26)
    have hsz : (((w.alloc (.cells #[.slice A m c] 24)).alloc (.cells #[.int .i64 0] 3)).alloc (.cells #[.int .i64 0] 26)).heap.size = w.heap.size + 3 := by simp only [size_new]
    refine callsIn_of_wp_marks Tryd.func9 rfl trivial ?_ rfl
    simp only [Tryd.ntmps9, List.size_toArray, List.length_cons, List.length_nil, Nat.reduceAdd, Nat.reduceSub, Array.replicate_succ, Array.replicate_zero, List.push_toArray, List.append_toArray, List.nil_append, List.cons_append]
    gi_wp2
    obtain ⟨W0, hW0⟩ : ∃ W0, (((w.alloc (.cells #[.slice A m c] 24)).alloc (.cells #[.int .i64 0] 3)).alloc (.cells #[.int .i64 0] 26)) = W0 := ⟨_, rfl⟩
    rw [hW0] at m0 m1 m2 hB0 hE0 hsz ⊢
    clear hW0 hE
    have M0 := Lib.hid m0
    have M1 := Lib.hid m1
    have M2 := Lib.hid m2
    have HSZ := Lib.hid hsz
    clear m0 m1 m2 hsz
    gi_loopw [12] (fun kv wr => ∃ (k : Nat) (o : Bool) (b : Int), k ≤ m ∧ kv = .int .i64 k ∧ Hid (chkGo ps (ps.drop k) k (oOf o b) = (u, v)) ∧ Hid (St ps k o b) ∧ Below W0.heap.size W0 wr ∧ Env wr) (fun kv _ => m - (intOf kv).toNat)
    case atStart => exact ⟨0, false, 0, by omega, rfl, HV, Lib.hid (st_zero ps), Below.refl _ _, hE0⟩
    case round =>
      obtain ⟨k, o, b, hk, rfl, hgo, hst, hbw, hEr⟩ := hrel
      clear hE0 HV
      have c0 : wr.cell? ⟨w.heap.size, 0, none⟩ = some (.slice A m c) := (M0.out.below hbw (by have := HSZ.out; omega)).cell 0
      have N1 := Lib.hid (M1.out.below hbw (by have := HSZ.out; omega))
      have N2 := Lib.hid (M2.out.below hbw (by have := HSZ.out; omega))
      have HBW := Lib.hid (hB0.trans (hbw.mono hB0.size))
      have HRr := Lib.hid (HR0.out.below HBW.out)
      have HB0 := Lib.hid hbw
      clear hbw
      by_cases hkm : k < m
      · obtain ⟨g, off, x, rfl, hg, hx, _⟩ := HRr.out.at hkm
        have hg2 := hgo.out
        rw [drop_cons_of hx] at hg2
        unfold chkGo at hg2
        have hce := ca_eq hst.out hx
        obtain ⟨e0, he0⟩ : ∃ e0, errAt ps k x (oOf o b) = e0 := ⟨_, rfl⟩
        rw [he0] at hg2 hce
        have HG := Lib.hid hg2
        have HX := Lib.hid hx
        have HCE := Lib.hid hce
        have HEO := Lib.hid he0
        clear hg2 hx hce he0 hgo
        by_cases hz : e0 = 0
        · subst hz
          have HN := Lib.hid (st_next hst.out HX.out HEO.out)
          gi_wp2_with (refine ⟨trivial, ?_⟩; gi_at_call 24; refine (callsIn_wide.2 (a_checkAt HX.out HCE.out _ hEr hm hmx hkm (by omega) HRr.out)).mono ?_; rintro e w1 ⟨rfl, hb1⟩)
          obtain ⟨o', b', hs', hn'⟩ := HN.out
          go_roundw
          case rel => exact ⟨k + 1, o', b', by omega, by go_num, Lib.hid (by have h := HG.out; rw [if_neg (by simp), hn'] at h; exact h), Lib.hid hs', HB0.out.trans (hb1.mono HB0.out.size), hEr.below hb1⟩
          case measure => simp [intOf]; omega
        · have hg2 := HG.out
          rw [if_pos hz] at hg2
          injection hg2 with e1 e2
          subst e1 e2
          have hz' : (e0 != 0) = true := by simpa using hz
          clear hz HG
          gi_wp2_with (refine ⟨trivial, ?_⟩; gi_at_call 24; refine (callsIn_wide.2 (a_checkAt HX.out HCE.out _ hEr hm hmx hkm (by omega) HRr.out)).mono ?_; rintro e w1 ⟨rfl, hb1⟩; have P1 := Lib.hid (N1.out.below hb1 N1.out.lt); have P2 := Lib.hid (N2.out.below hb1 N2.out.lt); have c10 : w1.cell? ⟨w.heap.size + 1, 0, none⟩ = some (.int .i64 0) := P1.out.cell 0; have c20 : w1.cell? ⟨w.heap.size + 1 + 1, 0, none⟩ = some (.int .i64 0) := P2.out.cell 0; have f10 := P1.out.frozen 0; have f20 := P2.out.frozen 0)
          have r1 := (P1.out.set_ 0 (.int .i64 k)).far (a := ⟨w.heap.size + 1 + 1, 0, none⟩) (by show w.heap.size + 1 ≠ w.heap.size + 1 + 1; omega) (.int .i64 e0)
          have r2 := (P2.out.far (a := ⟨w.heap.size + 1, 0, none⟩) (by show w.heap.size + 2 ≠ w.heap.size + 1; omega) (.int .i64 k)).set_ 0 (.int .i64 e0)
          have e1 := r1.cell 0
          have e2 := r2.cell 0
          refine ⟨.tuple #[.int .i64 k, .int .i64 e0], ?_, rfl, ((HBW.out.trans (hb1.mono HBW.out.size)).setCell (by show w.heap.size ≤ w.heap.size + 1; omega) _).setCell (by show w.heap.size ≤ w.heap.size + 1 + 1; omega) _⟩
          simp [results, Tryd.f9, go_sem, e1, e2]
      · obtain rfl : k = m := by omega
        have hg2 := hgo.out
        rw [show ps.drop k = [] from List.drop_eq_nil_of_le (by rw [HL.out]; exact Nat.le_refl _)] at hg2
        have hst2 := hst.out
        rw [← HL.out] at hg2 hst2
        rw [st_end hst2] at hg2
        have HLast := Lib.hid hg2
        clear hg2 hst2 hgo
        gi_wp2_with (refine ⟨trivial, ?_⟩; gi_at_call 25; refine (trans_in _ _ _ _ _).mono ?_; rintro e w' ⟨rfl, rfl⟩)
        have hmc := HL.out
        have P0 := Lib.hid (((M0.out.below HB0.out (by have := HSZ.out; omega)).alloc (.cells #[.slice A k c] 24)))
        have P1 := Lib.hid (N1.out.alloc (.cells #[.slice A k c] 24))
        have P2 := Lib.hid (N2.out.alloc (.cells #[.slice A k c] 24))
        have P3 := Mem.new wr 24 #[.slice A k c]
        have HB1 := Lib.hid (HBW.out.alloc HBW.out.size (.cells #[.slice A k c] 24))
        have hs1 := size_new wr (.cells #[.slice A k c] 24)
        have HGS := Lib.hid (show w.heap.size + 2 < wr.heap.size from N2.out.lt)
        obtain ⟨W1, hW1⟩ : ∃ W1, wr.alloc (.cells #[.slice A k c] 24) = W1 := ⟨_, rfl⟩
        rw [hW1] at P0 P1 P2 P3 HB1 hs1 ⊢
        obtain ⟨gb, hgb⟩ : ∃ gb, wr.heap.size = gb := ⟨_, rfl⟩
        rw [hgb] at P3 hs1 HGS ⊢
        have HS1 := Lib.hid hs1
        clear hW1 hgb hs1 hmc c0 hEr hst
        refine wpIn_rangeFunc_ownH rfl h1 (gf := 53) (lb := #[.pointer (some ⟨gb, 0, none⟩)]) rfl trivial (enters_of Tryd.func53 (by kernel_rfl) rfl)
          (trans_stops (n - 1) (by omega) gb A k c ps w W1 hm hmx HR0.out HB1.out (P3.cell 0) (by have := HS1.out; omega)) belowK_t (belowK_b (Nat.le_refl _)) (Below.refl _ _) (fun _ => rfl)
          (fun pre W => NoneL ps.length pre ∧ Below W1.heap.size W1 W)
          (fun c pre W => (c = .ret ∧ FoundL ps.length w.heap.size pre W) ∧ Below w.heap.size w W)
          (OwnFrom.and (ownFrom_pure _ _) (ownFrom_below (Nat.le_refl _) (Nat.le_refl _)))
          (fun c => OwnFrom.and (Own.from (fun s X Y row hs hg hr => by
            obtain ⟨hc, p0, x, e1, e2, e3, e4, e5⟩ := hs
            exact ⟨hc, p0, x, e1, e2, e3, mem_own _ _ (fun (_ : Unit) => #[.int .i64 x.1]) () X Y row e4 hg hr, mem_own _ _ (fun (_ : Unit) => #[.int .i64 43]) () X Y row e5 hg hr⟩) _) (ownFrom_below (Nat.le_refl _) HB1.out.size))
          ⟨(fun y hy => by cases hy), Below.refl _ _⟩
          (fun x a' W => ∃ Bx, W1.heap.size ≤ Bx ∧ Mem W Bx 65 #[.int .i64 x.1, .int .i64 x.2] ∧ a' = { tmps := #[.slice A k c, .pointer (some ⟨w.heap.size, 0, none⟩), .pointer (some ⟨w.heap.size + 1, 0, none⟩), .pointer (some ⟨w.heap.size + 1 + 1, 0, none⟩), u4, u5, .pointer (some ⟨Bx, 0, none⟩), .slice A k c, .int .i64 k, .bool (decide (64 < (k : Int))), .slice A k c, .int .i64 k, .int .i64 k, .bool false, u14, u15, u16, u17, u18, u19, u20, u21, u22, .slice A k c, .func (.func 53) #[] #[.pointer (some ⟨gb, 0, none⟩)], .agg #[.int .i64 x.1, .int .i64 x.2], undef, undef, undef, undef, undef, undef, undef], defers := [] })
          (fun x a' _ X Y row hs hg hr => by obtain ⟨Bx, e1, e2, e3⟩ := hs; exact ⟨Bx, e1, mem_own Bx _ (fun (_ : Unit) => #[.int .i64 x.1, .int .i64 x.2]) () X Y row e2 hg (fun r e => (hr r e).2), e3⟩)
          ?assign ?body ?done ?stop
        case assign =>
          rintro l pre x W K ⟨hp, hb⟩ hK
          gi_wp2
          exact hK _ _ ((KeepsOthers.alloc _ _).from _) ((Below.refl _ W).alloc hb.size _) ⟨hp, hb.alloc hb.size _⟩ ⟨W.heap.size, hb.size, Mem.new W _ _, rfl⟩
        case body =>
          rintro l pre x a' W hl ⟨r, hr⟩ ⟨hp, hb⟩ ⟨Bx, hBx, mX, rfl⟩ hlt
          have Q1 := Lib.hid (P1.out.below hb P1.out.lt)
          have Q2 := Lib.hid (P2.out.below hb P2.out.lt)
          have cx0 : W.cell? ⟨Bx, 0, none⟩ = some (.int .i64 x.1) := mX.cell 0
          have cx1 : W.cell? ⟨Bx, 1, none⟩ = some (.int .i64 x.2) := mX.cell 1
          have cs : W.cell? ⟨w.heap.size, 0, none⟩ = some (.slice A k c) := (P0.out.below hb P0.out.lt).cell 0
          by_cases t1 : x.2 = k
          · have c10 : W.cell? ⟨w.heap.size + 1, 0, none⟩ = some (.int .i64 0) := Q1.out.cell 0
            have c20 : W.cell? ⟨w.heap.size + 1 + 1, 0, none⟩ = some (.int .i64 0) := Q2.out.cell 0
            have f10 := Q1.out.frozen 0
            have f20 := Q2.out.frozen 0
            have HF := Lib.hid (show isLast ps.length x = true by unfold isLast; rw [HL.out]; exact decide_eq_true t1)
            have t1' : (x.2 == (k : Int)) = true := by rw [beq_iff_eq]; exact t1
            clear t1
            gi_wp2
            exact ⟨((KeepsOthers.setCell _ _ _).trans (KeepsOthers.setCell _ _ _)).from _,
              ⟨rfl, pre, x, rfl, HF.out, hp, (Q1.out.set_ 0 _).far (by show w.heap.size + 1 ≠ w.heap.size + 2; omega) _, (Q2.out.far (by show w.heap.size + 2 ≠ w.heap.size + 1; omega) _).set_ 0 _⟩,
              ((HB1.out.trans (hb.mono HB1.out.size)).setCell (by show w.heap.size ≤ w.heap.size + 1; omega) _).setCell (by show w.heap.size ≤ w.heap.size + 2; omega) _⟩
          · have HF := Lib.hid (show isLast ps.length x = false by unfold isLast; rw [HL.out]; exact decide_eq_false t1)
            have t1' : (x.2 == (k : Int)) = false := beq_eq_false_iff_ne.2 t1
            clear t1
            gi_wp2
            exact ⟨KeepsFrom.refl _ _, Below.refl _ _, fun y hy => (List.mem_append.1 hy).elim (hp y) (fun e => by simp at e; subst e; exact HF.out), hb⟩
        case done =>
          rintro D ys W hD rfl ⟨hno, hb⟩ hK
          have Q1 := Lib.hid (P1.out.below hb P1.out.lt)
          have Q2 := Lib.hid (P2.out.below hb P2.out.lt)
          have c10 : W.cell? ⟨w.heap.size + 1, 0, none⟩ = some (.int .i64 0) := Q1.out.cell 0
          have c20 : W.cell? ⟨w.heap.size + 1 + 1, 0, none⟩ = some (.int .i64 0) := Q2.out.cell 0
          have f10 := Q1.out.frozen 0
          have f20 := Q2.out.frozen 0
          have hla := HLast.out
          unfold lastV at hla
          rw [find_no hno] at hla
          injection hla with e1 e2
          subst e1 e2
          clear hno
          gi_wp2
          have hK' := ((KeepsOthers.setCell W ⟨w.heap.size + 1, 0, none⟩ (.int .i64 0)).trans (KeepsOthers.setCell _ ⟨w.heap.size + 1 + 1, 0, none⟩ (.int .i64 0))).same D _ hK rfl
          refine ⟨by simp, .inl ⟨_, _, rfl, run_takeDeferred hK', ?_⟩⟩
          have r1 := mem_put ((Q1.out.set_ 0 (.int .i64 0)).far (a := ⟨w.heap.size + 1 + 1, 0, none⟩) (by show w.heap.size + 1 ≠ w.heap.size + 2; omega) (.int .i64 0)) hK' (.deferred none)
          have r2 := mem_put ((Q2.out.far (a := ⟨w.heap.size + 1, 0, none⟩) (by show w.heap.size + 2 ≠ w.heap.size + 1; omega) (.int .i64 0)).set_ 0 (.int .i64 0)) hK' (.deferred none)
          have e1 := r1.cell 0
          have e2 := r2.cell 0
          refine ⟨.tuple #[.int .i64 0, .int .i64 0], ?_, rfl, (((HB1.out.trans (hb.mono HB1.out.size)).setCell (by show w.heap.size ≤ w.heap.size + 1; omega) _).setCell (by show w.heap.size ≤ w.heap.size + 2; omega) _).trans (belowK_b (w := w) (Nat.le_refl _) _ D _ _ (by have := HB1.out.size; omega) hK' rfl rfl)⟩
          simp [results, Tryd.f9, go_sem, e1, e2]
        case stop =>
          rintro D c' pre W hD hpre ⟨⟨rfl, p0, x, rfl, e1, e2, e3, e4⟩, hB⟩ hK
          have hla := HLast.out
          unfold lastV at hla
          rw [find_at hpre e1 e2] at hla
          injection hla with q1 q2
          subst q1 q2
          gi_wp2
          refine ⟨by simp, .inl ⟨_, _, rfl, run_takeDeferred hK, ?_⟩⟩
          have r1 := mem_put e3 hK (.deferred none)
          have r2 := mem_put e4 hK (.deferred none)
          have c0 := r1.cell 0
          have c1 := r2.cell 0
          refine ⟨.tuple #[.int .i64 x.1, .int .i64 43], ?_, rfl, hB.trans (belowK_b (w := w) (Nat.le_refl _) W D _ _ (by have := HB1.out.size; omega) hK rfl rfl)⟩
          simp [results, Tryd.f9, go_sem, c0, c1]
theorem a_check (A : Option Addr) (m c : Nat) (ps : List I5) (w : World) (hE : Env w) (hm : m ≤ c) (hmx : c ≤ maxLen) (hR0 : RowI w A m ps) :
    Calls Tryd.prog 9 #[.slice A m c] w fun e W' => e = .returned (.tuple #[.int .i64 (refChk ps).1, .int .i64 (refChk ps).2]) ∧ Below w.heap.size w W' :=
  callsIn_wide.1 (check_in 3 (by omega) A m c ps w hE hm hmx hR0)
end Go.Proofs.YthnhmclnfgkppaaDoor.PgE
