/-
  Proved: nobody waits for ever: after any schedule, rounds in which every machine that holds a ticket steps and passes serve all tickets, in as many rounds as there are machines. No condition.
-/
import Derived.Test.YtpdmmblcjidekaaRows
import Derived.WalkKit
import Derived.ProofKit
import Derived.OpenShut
import Derived.Test.YtpdmmblcjidekaaFrame
import Derived.Test.YtpdmmblcjidekaaTurL
import Derived.Test.YtpdmmblcjidekaaLayO
import Derived.Test.YtpdmmblcjidekaaTurC
import Derived.Deep.RegionHeld3
import Derived.Deep.Cut
import Derived.Deep.DeepCutAuto
import Derived.Deep.CutBlock
namespace Go.Proofs.Ytpdmmblcjidekaa.turnLive
open Go.ChangeShapes Go.WideShapes Go.ChangeAt Go.RowKit
open LawFrame
open Go.ChangeMaps (open_string)
set_option linter.unusedVariables false

theorem own : ownKnob Try.prog.godebug = none := by kernel_rfl
theorem laidOut : laidOutB Try.prog = true := by kernel_rfl
theorem cells3 : Try.prog.cellsOf 3 = 1 := by kernel_rfl

open PlainT BlkW LayS LayA LayH LayK LayO LayP CelS CelM CelP CelV CelN CelO CelI CelB LabD LabR LabP LabS TurA TurB TurC
set_option maxHeartbeats 4000000
set_option maxRecDepth 100000
theorem img3 (d o l h n : Value) (c t s : Int) (w : World) : (Instr.field 46 (imgV d o c t s l h n) 3).run Try.prog w = .ok (.int .u64 t) w := by kernel_rfl
theorem img4 (d o l h n : Value) (c t s : Int) (w : World) : (Instr.field 46 (imgV d o c t s l h n) 4).run Try.prog w = .ok (.int .u64 s) w := by kernel_rfl
theorem iat {w0 w : World} {A : Option Addr} {n : Nat} {z : List Int} (h : Ints .i64 w0 A n z) (ho : Below w0.heap.size w0 w) {k : Nat} (hk : k < n) : ∃ b off x, A = some ⟨b, off, none⟩ ∧ b < w0.heap.size ∧ w.cell? ⟨b, off + k, none⟩ = some (.int .i64 x) := by
  obtain ⟨h1, h2, h3⟩ := h
  obtain ⟨b, off, rfl, hb, hc⟩ := h3 (by omega)
  exact ⟨b, off, _, rfl, hb, (World.cell?_of_block (ho.block b hb)).trans (hc k hk)⟩
theorem ar_at {w : World} {ga : Nat} {p : Nat → Th} (h : Mem w ga TA (aBox p)) {t : Nat} (h3 : t ≤ 3) : w.cell? ⟨ga, t, none⟩ = some (pt (p t)) := by
  have : t = 0 ∨ t = 1 ∨ t = 2 ∨ t = 3 := by omega
  rcases this with rfl | rfl | rfl | rfl
  · exact h.cell 0
  · exact h.cell 1
  · exact h.cell 2
  · exact h.cell 3
theorem pt_nil (o : Th) : ∃ a z, pt o = .pointer a ∧ o.isNone = z ∧ ∀ w, (binOp BinOp.eql 87 (.pointer a) (.pointer none)).run Try.prog w = .ok (.bool z) w := by
  cases o with
  | none => exact ⟨none, true, rfl, rfl, fun w => by kernel_rfl⟩
  | some x =>
    obtain ⟨g, st, k⟩ := x
    exact ⟨some ⟨g, 0, none⟩, false, rfl, rfl, fun w => by kernel_rfl⟩
theorem pt_none {a : Option Addr} (h : pt none = .pointer a) : none = a := by injection h
theorem pt_some {a : Option Addr} {g st : Nat} {k : Int} (h : pt (some (g, st, k)) = .pointer a) : some ⟨g, 0, none⟩ = a := by injection h
/-- Every machine has taken its ticket. -/
def Tk (p : Nat → Th) : Prop := ∀ t, t ≤ 3 → ∀ g st k, p t = some (g, st, k) → 1 ≤ st
theorem tk_up {p : Nat → Th} (h : Tk p) (t : Nat) {o : Th} (ho : ∀ g st k, o = some (g, st, k) → 1 ≤ st) : Tk (up p t o) := by
  intro u hu g st k hq
  by_cases e : u = t
  · subst e
    rw [up_at] at hq
    exact ho g st k hq
  · rw [up_ne e] at hq
    exact h u hu g st k hq
theorem tk_some {p : Nat → Th} (h : Tk p) (t g st : Nat) (k : Int) (hs : 1 ≤ st) : Tk (up p t (some (g, st, k))) := tk_up h t fun g' st' k' e => by injection e with e; injection e with _ e; injection e with e _; omega
theorem tk_none {p : Nat → Th} (h : Tk p) (t : Nat) : Tk (up p t none) := tk_up h t fun g' st' k' e => by cases e
theorem ts_any {w0 w : World} {lo hi b rb gp ga : Nat} {q : Cfg} {T S : Int} {p : Nat → Th} {t g st : Nat} {x : Int} (h : TS w0 lo hi b rb q gp ga T S p w) (h3 : t ≤ 3) (hp : p t = some (g, st, x)) (hT : T < 1000) : Calls Try.prog 58 #[.pointer (some ⟨g, 0, none⟩), .pointer (some ⟨b, 0, none⟩)] w fun e w' => (∃ v, e = .returned v) ∧ ∃ (T' : Int) (st' : Nat) (x' : Int), 1 ≤ st' ∧ T' ≤ T + 1 ∧ TS w0 lo hi b rb q gp ga T' S (up p t (some (g, st', x'))) w' := by
  by_cases h0 : st = 0
  · subst h0
    refine (ts_step0 h h3 hp hT).mono ?_
    rintro e w' ⟨hv, hG⟩
    exact ⟨hv, _, _, _, by omega, by omega, hG⟩
  · refine (ts_step1 h h3 hp (by omega)).mono ?_
    rintro e w' ⟨hv, hG⟩
    exact ⟨hv, _, _, _, by split <;> omega, by omega, hG⟩
/-- Every machine but that of thread t has taken its ticket. -/
def TkB (p : Nat → Th) (t : Nat) : Prop := ∀ u, u ≤ 3 → u ≠ t → ∀ g st k, p u = some (g, st, k) → 1 ≤ st
theorem tk_b {p : Nat → Th} {t : Nat} (h : Tk p) : TkB p t := fun u hu _ g st k hq => h u hu g st k hq
theorem tkb_up {p : Nat → Th} {t : Nat} (h : Tk p) (o : Th) : TkB (up p t o) t := by
  intro u hu hne g st k hq
  rw [up_ne hne] at hq
  exact h u hu g st k hq
theorem tkb_some {p : Nat → Th} {t : Nat} (h : TkB p t) (g st : Nat) (k : Int) (hs : 1 ≤ st) : Tk (up p t (some (g, st, k))) := by
  intro u hu g' st' k' hq
  by_cases e : u = t
  · subst e
    rw [up_at] at hq
    injection hq with hq
    injection hq with e1 hq
    injection hq with e2 e3
    omega
  · rw [up_ne e] at hq
    exact h u hu e g' st' k' hq
/-- What the last rounds have done, before thread t. -/
def Lv (p : Nat → Th) (T S : Int) (r t : Nat) : Prop := T - S ≤ 3 - r ∨ (T - S ≤ 4 - r ∧ (S < T → ∃ u g st, t ≤ u ∧ u ≤ 3 ∧ p u = some (g, st, S)))
theorem lv_first {w0 w : World} {lo hi b rb gp ga : Nat} {q : Cfg} {T S : Int} {p : Nat → Th} {r : Nat} (h : TS w0 lo hi b rb q gp ga T S p w) (hr : T - S ≤ 4 - r) : Lv p T S r 0 := by
  refine .inr ⟨hr, fun hlt => ?_⟩
  obtain ⟨u, g, st, hu, hq, _⟩ := h.hl S (Int.le_refl _) hlt
  exact ⟨u, g, st, by omega, hu, hq⟩
theorem lv_skip {p : Nat → Th} {T S : Int} {r t : Nat} (h : Lv p T S r t) (hp : ∀ g st, p t ≠ some (g, st, S)) : Lv p T S r (t + 1) := by
  rcases h with h | ⟨h, h2⟩
  · exact .inl h
  · refine .inr ⟨h, fun hlt => ?_⟩
    obtain ⟨u, g, st, h3, h4, h5⟩ := h2 hlt
    refine ⟨u, g, st, ?_, h4, h5⟩
    by_cases e : u = t
    · subst e
      exact absurd h5 (hp g st)
    · omega
theorem lv_up {p : Nat → Th} {T S x : Int} {r t g st st' : Nat} (h : Lv p T S r t) (hp : p t = some (g, st, x)) (hx : x ≠ S) : Lv (up p t (some (g, st', x))) T S r (t + 1) := by
  rcases h with h | ⟨h, h2⟩
  · exact .inl h
  · refine .inr ⟨h, fun hlt => ?_⟩
    obtain ⟨u, g', st'', h3, h4, h5⟩ := h2 hlt
    have e : u ≠ t := by
      rintro rfl
      rw [hp] at h5
      injection h5 with h5
      injection h5 with _ h5
      injection h5 with _ h5
      exact hx h5
    exact ⟨u, g', st'', by omega, h4, by rw [up_ne e]; exact h5⟩
theorem lv_pass {p p' : Nat → Th} {T S : Int} {r t : Nat} (h : Lv p T S r t) : Lv p' T (S + 1) r (t + 1) := by
  rcases h with h | ⟨h, _⟩
  · exact .inl (by omega)
  · exact .inl (by omega)
theorem lv_last {p : Nat → Th} {T S : Int} {r : Nat} (h : Lv p T S r 4) (hS : S ≤ T) (hr : r ≤ 3) : T - S ≤ 3 - r := by
  rcases h with h | ⟨h, h2⟩
  · exact h
  · by_cases e : S < T
    · obtain ⟨u, g, st, h3, h4, _⟩ := h2 e
      omega
    · omega
theorem cnt_none {p : Nat → Th} (h : Tk p) (hc : TurC.cnt p = 0) : aBox p = #[.pointer none, .pointer none, .pointer none, .pointer none] := by
  have k0 := cn_in (p 0)
  have k1 := cn_in (p 1)
  have k2 := cn_in (p 2)
  have k3 := cn_in (p 3)
  have hz : ∀ t, t ≤ 3 → cn (p t) = 0 → pt (p t) = .pointer none := by
    intro t ht h0
    cases hq : p t with
    | none => rfl
    | some y =>
      obtain ⟨g, st, k⟩ := y
      have := h t ht g st k hq
      rw [hq] at h0
      have e1 : cn (some (g, st, k)) = 1 := if_neg (by omega)
      omega
  unfold TurC.cnt at hc
  simp only [aBox, hz 0 (by omega) (by omega), hz 1 (by omega) (by omega), hz 2 (by omega) (by omega), hz 3 (by omega) (by omega)]
theorem cnt_bound (p : Nat → Th) : 0 ≤ TurC.cnt p ∧ TurC.cnt p ≤ 4 := by
  have k0 := cn_in (p 0)
  have k1 := cn_in (p 1)
  have k2 := cn_in (p 2)
  have k3 := cn_in (p 3)
  unfold TurC.cnt
  omega
theorem ar_of {w : World} {ga : Nat} {p : Nat → Th} (h : Mem w ga TA (aBox p)) (e : aBox p = #[.pointer none, .pointer none, .pointer none, .pointer none]) : Mem w ga TA #[.pointer none, .pointer none, .pointer none, .pointer none] := e ▸ h

theorem readable : ∀ t ∈ Try.f13.params.toList, Try.prog.readableRec t = true ∧ t < Try.prog.types.size := by
  have h : (Try.f13.params.toList.all fun t => Try.prog.readableRec t && decide (t < Try.prog.types.size)) = true := by kernel_rfl
  intro t ht
  have := List.all_eq_true.1 h t ht
  simpa using this

/-! The walk. -/
theorem walk (w : World) (x0_0 x0_1 x0_2 x0_3 x0_4 : Int) (wx0_0 : LayS.InI x0_0) (wx0_1 : LayS.InI x0_1) (wx0_2 : LayS.InI x0_2) (wx0_3 : LayS.InI x0_3) (wx0_4 : LayS.InI x0_4) (A1 : Option Addr) (n1 c1 : Nat) (z1 : List Int) (l1 : n1 ≤ c1) (m1 : c1 ≤ maxLen) (s1 : Ints .i64 w A1 n1 z1) :
    Calls Try.prog 13 #[.agg #[.int .i64 x0_0, .int .i64 x0_1, .int .i64 x0_2, .int .i64 x0_3, .int .i64 x0_4], .slice A1 n1 c1] w fun e w' => e = .returned (.bool true) ∧ Kept w w' := by
  show Calls _ _ #[.agg _, _] _ _
  clear wx0_0 wx0_1 wx0_2 wx0_3 wx0_4
  have HZ := Lib.hid s1
  clear s1
  have HB0 := Lib.hid (below_new w (.cells #[.int .i64 x0_0, .int .i64 x0_1, .int .i64 x0_2, .int .i64 x0_3, .int .i64 x0_4] 22))
  go_enter Try.func13, Try.ntmps13
  by_cases hbig : (60 : Int) < n1
  · go_wp2_with fail
    refine (TurL.l_awake _).mono ?_
    rintro e w3 ⟨rfl, hb1⟩
    have HB1 := Lib.hid (below_trans2 HB0.out hb1)
    clear hb1
    go_wp2
    go_ret
    exact ⟨rfl, .of_below HB1.out⟩
  · have hn80 : (n1 : Int) ≤ 60 := by omega
    clear hbig
    go_upto_region 4 with (go_at_call 28; refine (l_small _ _ _ _ _ _).mono ?_; rintro e w1 ⟨q, A, lo, hi, b, rb, rfl, hst⟩)
    obtain ⟨w0, hw0⟩ : ∃ w0, w.alloc (.cells #[.int .i64 x0_0, .int .i64 x0_1, .int .i64 x0_2, .int .i64 x0_3, .int .i64 x0_4] 22) = w0 := ⟨_, rfl⟩
    rw [hw0] at HB0 hst
    clear hw0
    have S0 := Lib.hid (ct_begun hst)
    have hlo := S0.out.lo
    have hle := S0.out.le
    clear hst
    have X1_gp := Lib.hid (Mem.new w1 TP #[.pointer (some ⟨b, 0, none⟩), .pointer (some ⟨rb, 0, none⟩)])
    have S1 := Lib.hid (S0.out.alloc (.cells #[.pointer (some ⟨b, 0, none⟩), .pointer (some ⟨rb, 0, none⟩)] TP))
    have hgp_top := S0.out.top
    obtain ⟨gp, hn⟩ : ∃ gp, w1.heap.size = gp := ⟨_, rfl⟩
    have Z_gp : Hid ((w1.alloc (.cells #[.pointer (some ⟨b, 0, none⟩), .pointer (some ⟨rb, 0, none⟩)] TP)).heap.size = gp + 1) := Lib.hid (by rw [size_new, hn])
    rw [hn] at X1_gp hgp_top 
    first | rw [hn] | skip
    clear hn 
    obtain ⟨W1, hW⟩ : ∃ W', w1.alloc (.cells #[.pointer (some ⟨b, 0, none⟩), .pointer (some ⟨rb, 0, none⟩)] TP) = W' := ⟨_, rfl⟩
    rw [hW] at X1_gp S1 Z_gp
    first | rw [hW] | skip
    clear hW
    clear S0
    have c1_gp_0 := Mem.cell X1_gp.out 0
    have c1_gp_1 := Mem.cell X1_gp.out 1
    simp at c1_gp_0 c1_gp_1
    go_upto_region 7 with (fail)
    have X2_gp := Lib.hid (X1_gp.out.alloc (.cells #[.pointer none, .pointer none, .pointer none, .pointer none] TA))
    have hga_gp : gp < W1.heap.size := X1_gp.out.lt
    have X2_ga := Lib.hid (Mem.new W1 TA #[.pointer none, .pointer none, .pointer none, .pointer none])
    have S2 := Lib.hid (S1.out.alloc (.cells #[.pointer none, .pointer none, .pointer none, .pointer none] TA))
    have hga_top := S1.out.top
    obtain ⟨ga, hn⟩ : ∃ ga, W1.heap.size = ga := ⟨_, rfl⟩
    have Z_ga : Hid ((W1.alloc (.cells #[.pointer none, .pointer none, .pointer none, .pointer none] TA)).heap.size = ga + 1) := Lib.hid (by rw [size_new, hn])
    rw [hn] at X2_ga hga_top hga_gp
    first | rw [hn] | skip
    clear hn c1_gp_0 c1_gp_1
    obtain ⟨W2, hW⟩ : ∃ W', W1.alloc (.cells #[.pointer none, .pointer none, .pointer none, .pointer none] TA) = W' := ⟨_, rfl⟩
    rw [hW] at X2_gp X2_ga S2 Z_ga
    first | rw [hW] | skip
    clear hW
    clear X1_gp S1
    have c2_gp_0 := Mem.cell X2_gp.out 0
    have c2_gp_1 := Mem.cell X2_gp.out 1
    have c2_ga_0 := Mem.cell X2_ga.out 0
    have c2_ga_1 := Mem.cell X2_ga.out 1
    have c2_ga_2 := Mem.cell X2_ga.out 2
    have c2_ga_3 := Mem.cell X2_ga.out 3
    simp at c2_gp_0 c2_gp_1 c2_ga_0 c2_ga_1 c2_ga_2 c2_ga_3
    have HG : Hid (TS w0 lo hi b rb q gp ga 0 0 (fun _ => none) W2) := Lib.hid ⟨S2.out, X2_gp.out, X2_ga.out, fun _ _ _ _ _ h => by (cases h), fun _ _ => trivial, fun _ _ _ _ _ => trivial, fun j h1 h2 => by omega, ⟨by omega, by omega, by omega, by omega⟩, by decide, by decide, by decide⟩
    clear c2_gp_0 c2_gp_1 c2_ga_0 c2_ga_1 c2_ga_2 c2_ga_3 X2_gp X2_ga S2 hlo hle
    go_wp2_with fail
    go_loopw [8] (fun iv wr => ∃ (i : Nat) (T S : Int) (p : Nat → Th), iv = .int .i64 i ∧ TS w0 lo hi b rb q gp ga T S p wr ∧ Tk p ∧ i ≤ n1 ∧ T ≤ i) (fun iv _ => n1 - (intOf iv).toNat)
    case atStart => exact ⟨0, _, _, _, rfl, HG.out, fun t _ g st k h => by (cases h), by omega, by omega⟩
    case round =>
      clear HG
      obtain ⟨i, T, S, p, rfl, hrs, htk, hi1, hTi⟩ := hrel
      have HG := Lib.hid hrs
      have HK := Lib.hid htk
      clear hrs htk
      by_cases hlt : i < n1
      · have hltI : (i : Int) < n1 := by omega
        obtain ⟨tb, toff, tx, rfl, htb, htc⟩ := iat HZ.out (below_trans2 HB0.out HG.out.ct.old) hlt
        have hib : ∀ W, Below w0.heap.size w0 W → W.cell? ⟨tb, toff + i, none⟩ = some (.int .i64 tx) := fun W hW => by
          obtain ⟨b2, o2, x2, e2, hb2, hc2⟩ := iat HZ.out (below_trans2 HB0.out hW) hlt
          obtain ⟨b3, o3, x3, e3, hb3, hc3⟩ := iat HZ.out (below_trans2 HB0.out HG.out.ct.old) hlt
          injection e2 with e2
          injection e2 with e4 e5
          subst e4 e5
          have h1 : wr.cell? ⟨tb, toff + i, none⟩ = W.cell? ⟨tb, toff + i, none⟩ := (World.cell?_of_block ((below_trans2 HB0.out HG.out.ct.old).block tb htb)).trans (World.cell?_of_block ((below_trans2 HB0.out hW).block tb htb)).symm
          rw [← h1]
          exact htc
        have HIB := Lib.hid hib
        clear hib
        go_upto_region 11 with (go_at_call 16; refine (k_place_ex _ _ (by omega) (by omega) _).mono ?_; rintro e w9 ⟨u, u0, u1, rfl, rfl⟩)
        obtain ⟨t, ht⟩ : ∃ t : Nat, u = t := ⟨u.toNat, by omega⟩
        subst ht
        have t3 : t ≤ 3 := by omega
        have t4 : (t : Int) < 4 := by omega
        clear htc
        obtain ⟨v0, z0, hv0, hz0, hpt0⟩ := pt_nil (p t)
        have hat : wr.cell? ⟨ga, t, none⟩ = some (.pointer v0) := hv0 ▸ HG.out.at_ t3
        go_upto_if 38 with fail
        go_cut [9] (fun tv wc => tv = .int .i64 t ∧ ∃ (p' : Nat → Th) (g st : Nat) (x : Int), Hid (TS w0 lo hi b rb q gp ga T S p' wc) ∧ Hid (TkB p' t) ∧ p' t = some (g, st, x))
        case first =>
          have r0 := HG.out.p0
          rcases ho : p t with _ | ⟨g, st, x⟩
          · rw [ho] at hv0 hz0
            obtain rfl := pt_none hv0
            obtain rfl : true = z0 := hz0
            clear hpt0
            have HG2 := Lib.hid (ts_new HG.out t3 ho)
            have hgw : ga < wr.heap.size := HG.out.ar.lt
            rw [World.setCell_alloc_past _ _ _ _ hgw] at HG2
            have hal : (wr.alloc (.cells #[.int .i64 0, .int .i64 (-1)] TT)).cell? ⟨ga, t, none⟩ = some (.pointer none) := by
              have h := (HG.out.below (below_new wr (.cells #[.int .i64 0, .int .i64 (-1)] TT))).at_ t3
              rw [ho] at h
              exact h
            have haz := (HG.out.below (below_new wr (.cells #[.int .i64 0, .int .i64 (-1)] TT))).fz t
            go_upto_region 13 with (go_at_call 52; refine (t_new _).mono ?_; rintro e w10 ⟨rfl, rfl⟩)
            obtain ⟨g, hg⟩ : ∃ g, wr.heap.size = g := ⟨_, rfl⟩
            rw [hg] at HG2 hgw
            first | rw [hg] | skip
            obtain ⟨W2, hW2⟩ : ∃ W2, (wr.setCell ⟨ga, t, none⟩ (.pointer (some ⟨g, 0, none⟩))).alloc (.cells #[.int .i64 0, .int .i64 (-1)] TT) = W2 := ⟨_, rfl⟩
            rw [hW2] at HG2
            first | rw [hW2] | skip
            clear hW2 hg HG hal haz hat r0
            have r0 := HG2.out.p0
            have hat : W2.cell? ⟨ga, t, none⟩ = some (.pointer (some ⟨g, 0, none⟩)) := by
              have h := HG2.out.at_ t3
              rw [up_at] at h
              exact h
            go_wp2_with fail
            all_goals go_meet
            all_goals exact ⟨rfl, _, g, 0, -1, HG2, Lib.hid (tkb_up HK.out _), up_at p t _⟩
          · rw [ho] at hv0 hz0
            obtain rfl := pt_some hv0
            obtain rfl : false = z0 := hz0
            clear hpt0
            go_wp2_with fail
            all_goals go_meet
            all_goals exact ⟨rfl, p, g, st, x, HG, Lib.hid (tk_b HK.out), ho⟩
        case rest =>
          obtain ⟨rfl, p', g, st, x, HG', HT', ho⟩ := hcut
          clear HG HK hat hv0 hz0 hpt0
          have r0 := HG'.out.p0
          have hat : wc.cell? ⟨ga, t, none⟩ = some (.pointer (some ⟨g, 0, none⟩)) := by
            have := HG'.out.at_ t3
            rw [ho] at this
            exact this
          have hst := ts_any HG'.out.drew t3 ho (by omega)
          go_upto_region 15 with (fail)
          go_region_held3 (fun W => W.cell? ⟨ga, t, none⟩ = some (.pointer (some ⟨g, 0, none⟩)) ∧ W.cell? ⟨gp, 0, none⟩ = some (.pointer (some ⟨b, 0, none⟩))) (first | exact ⟨hat, r0⟩ | exact ⟨by assumption, by assumption⟩) (first
            | (go_at_call 58; (with_reducible refine hst.mono ?_); rintro e w11 ⟨⟨v, rfl⟩, T2, st2, x2, hs2, hT2, hG⟩; have hb1 := hG.p0; have hb3 : w11.cell? ⟨ga, t, none⟩ = some (.pointer (some ⟨g, 0, none⟩)) := (by have h := hG.at_ t3; rw [up_at] at h; exact h)))
          have HG3 := Lib.hid hG
          have HT3 := Lib.hid (tkb_some HT'.out g st2 x2 hs2)
          clear hG hst r0 hat
          have r0 := HG3.out.p0
          have hat : w11.cell? ⟨ga, t, none⟩ = some (.pointer (some ⟨g, 0, none⟩)) := by
            have := HG3.out.at_ t3
            rw [up_at] at this
            exact this
          have hdn := t_done g _ _ w11 (HG3.out.en t t3 g st2 x2 (up_at _ t _)).1
          have htc := HIB.out w11 HG3.out.ct.old
          by_cases h2 : st2 = 2
          · subst h2
            have hdv : (((2 : Nat) : Int) == 2) = true := by decide
            rw [hdv] at hdn
            go_upto_if 64 with (go_at_call 54; refine hdn.mono ?_; rintro e w12 ⟨rfl, rfl⟩)
            by_cases hD : (wrap64 (tx.tdiv 4)).tmod 2 = 0
            · have hDb : ((wrap64 (tx.tdiv 4)).tmod 2 == 0) = true := by simpa using hD
              obtain rfl : x2 = S := HG3.out.has t3 (up_at _ t _)
              have htn := t_ticket g _ _ w11.drew ((HG3.out.drew).en t t3 g 2 x2 (up_at _ t _)).1
              have hpa := c_pass HG3.out.drew.ct x2 (by have := HG3.out.cl; omega) (by have := HG3.out.ok t t3; rw [up_at] at this; rcases this with h | h | h <;> omega)
              go_upto_region 17 with (go_at_call 54; refine hdn.mono ?_; rintro e w12 ⟨rfl, rfl⟩)
              go_region_held3 (fun W => W.cell? ⟨ga, t, none⟩ = some (.pointer (some ⟨g, 0, none⟩)) ∧ W.cell? ⟨gp, 0, none⟩ = some (.pointer (some ⟨b, 0, none⟩))) (first | exact ⟨hat, r0⟩ | exact ⟨by assumption, by assumption⟩) (first
                | (go_at_call 55; (with_reducible refine htn.mono ?_); rintro e w13 ⟨rfl, rfl⟩)
                | (go_at_call 56; (with_reducible refine hpa.mono ?_); rintro e w14 ⟨rfl, hS, hT⟩; have hm := Mem.of_eq HG3.out.drew.ar (hT.block ga HG3.out.drew.ar.lt (.inr (by have := HG3.out.st; omega))); have hq3 : w14.cell? ⟨ga, t, none⟩ = some (.pointer (some ⟨g, 0, none⟩)) := (by have h := ar_at hm t3; rw [up_at] at h; exact h); have hq2 := hm.frozen t; have hq1 : w14.cell? ⟨gp, 0, none⟩ = some (.pointer (some ⟨b, 0, none⟩)) := (World.cell?_of_block (hT.block gp HG3.out.drew.pa.lt (.inr (by have := HG3.out.st; omega)))).trans HG3.out.drew.p0))
              have HG4 := Lib.hid (ts_passed HG3.out.drew t3 (up_at _ t _) hS hT)
              clear hS hT hm hdn htn hpa r0 hat htc
              go_wp2_with fail
              go_roundw
              case rel => exact ⟨i + 1, T2, x2 + 1, _, by go_num, HG4.out, tk_none HT3.out t, by omega, by omega⟩
              case measure => simp [intOf]; omega
            · have hDb : ((wrap64 (tx.tdiv 4)).tmod 2 == 0) = false := by simpa using hD
              go_wp2_with (go_at_call 54; refine hdn.mono ?_; rintro e w12 ⟨rfl, rfl⟩)
              go_roundw
              case rel => exact ⟨i + 1, T2, S, _, by go_num, HG3.out, HT3.out, by omega, by omega⟩
              case measure => simp [intOf]; omega
          · have hdv : ((st2 : Int) == 2) = false := by simp; omega
            rw [hdv] at hdn
            go_wp2_with (go_at_call 54; refine hdn.mono ?_; rintro e w12 ⟨rfl, rfl⟩)
            go_roundw
            case rel => exact ⟨i + 1, T2, S, _, by go_num, HG3.out, HT3.out, by omega, by omega⟩
            case measure => simp [intOf]; omega
      · obtain rfl : i = n1 := by omega
        have hcl0 := HG.out.cl
        have hcb0 := cnt_bound p
        go_wp2_with fail
        go_loopw [10] (fun rv wr2 => ∃ (r : Nat) (S' : Int) (p' : Nat → Th), r ≤ 4 ∧ rv = .int .i64 r ∧ TS w0 lo hi b rb q gp ga T S' p' wr2 ∧ Tk p' ∧ T - S' ≤ 4 - r) (fun rv _ => 4 - (intOf rv).toNat)
        case atStart => exact ⟨0, S, p, by omega, rfl, HG.out, HK.out, by omega⟩
        case round =>
          clear HG HK hcl0 hcb0
          obtain ⟨r, S, p, hr4, rfl, hrs, htk, hd⟩ := hrel
          have HG := Lib.hid hrs
          have HK := Lib.hid htk
          have hcl0 := hrs.cl
          have hcb0 := cnt_bound p
          clear hrs htk
          by_cases hr : r < 4
          · have hrI : (r : Int) < 4 := by omega
            go_wp2_with fail
            go_loopw [11] (fun tv wr3 => ∃ (t : Nat) (S' : Int) (p' : Nat → Th), t ≤ 4 ∧ tv = .int .i64 t ∧ TS w0 lo hi b rb q gp ga T S' p' wr3 ∧ Tk p' ∧ Lv p' T S' r t) (fun tv _ => 4 - (intOf tv).toNat)
            case atStart => exact ⟨0, S, p, by omega, rfl, HG.out, HK.out, lv_first HG.out hd⟩
            case round =>
              clear HG HK hcl0 hcb0
              obtain ⟨t, S, p, ht4, rfl, hrs, htk, hlv⟩ := hrel
              have HG := Lib.hid hrs
              have HK := Lib.hid htk
              have HL := Lib.hid hlv
              have hcl0 := hrs.cl
              have hcb0 := cnt_bound p
              clear hrs htk hlv
              by_cases ht : t < 4
              · have htI : (t : Int) < 4 := by omega
                have t3 : t ≤ 3 := by omega
                have r0 := HG.out.p0
                rcases ho : p t with _ | ⟨g, st, x⟩
                · have hat : wr.cell? ⟨ga, t, none⟩ = some (.pointer none) := by
                    have := HG.out.at_ t3
                    rw [ho] at this
                    exact this
                  go_wp2_with fail
                  go_roundw
                  case rel => exact ⟨t + 1, S, p, by omega, by go_num, HG.out, HK.out, lv_skip HL.out (fun g st e => by rw [ho] at e; cases e)⟩
                  case measure => simp [intOf]; omega
                · have hst1 := HK.out t t3 g st x ho
                  have hat : wr.cell? ⟨ga, t, none⟩ = some (.pointer (some ⟨g, 0, none⟩)) := by
                    have := HG.out.at_ t3
                    rw [ho] at this
                    exact this
                  have hst := ts_step1 HG.out.drew t3 ho hst1
                  go_upto_region 26 with (fail)
                  go_region_held3 (fun W => W.cell? ⟨ga, t, none⟩ = some (.pointer (some ⟨g, 0, none⟩)) ∧ W.cell? ⟨gp, 0, none⟩ = some (.pointer (some ⟨b, 0, none⟩))) (first | exact ⟨hat, r0⟩ | exact ⟨by assumption, by assumption⟩) (first
                    | (go_at_call 58; (with_reducible refine hst.mono ?_); rintro e w11 ⟨⟨v, rfl⟩, hG⟩; have hb1 := hG.p0; have hb3 : w11.cell? ⟨ga, t, none⟩ = some (.pointer (some ⟨g, 0, none⟩)) := (by have h := hG.at_ t3; rw [up_at] at h; exact h)))
                  have HG3 := Lib.hid hG
                  have hst2 : 1 ≤ (if x = S then 2 else 1) := by split <;> omega
                  have HT3 := Lib.hid (tk_some HK.out t g _ x hst2)
                  clear hG hst r0 hat
                  have r0 := HG3.out.p0
                  have hat : w11.cell? ⟨ga, t, none⟩ = some (.pointer (some ⟨g, 0, none⟩)) := by
                    have := HG3.out.at_ t3
                    rw [up_at] at this
                    exact this
                  have hdn := t_done g _ _ w11 (HG3.out.en t t3 g _ x (up_at _ t _)).1
                  by_cases hx : x = S
                  · subst hx
                    rw [if_pos rfl] at HG3 HT3 hdn
                    have hdv : (((2 : Nat) : Int) == 2) = true := by decide
                    rw [hdv] at hdn
                    have htn := t_ticket g _ _ w11.drew ((HG3.out.drew).en t t3 g 2 x (up_at _ t _)).1
                    have hpa := c_pass HG3.out.drew.ct x (by omega) (by omega)
                    go_upto_region 28 with (go_at_call 54; refine hdn.mono ?_; rintro e w12 ⟨rfl, rfl⟩)
                    go_region_held3 (fun W => W.cell? ⟨ga, t, none⟩ = some (.pointer (some ⟨g, 0, none⟩)) ∧ W.cell? ⟨gp, 0, none⟩ = some (.pointer (some ⟨b, 0, none⟩))) (first | exact ⟨hat, r0⟩ | exact ⟨by assumption, by assumption⟩) (first
                      | (go_at_call 55; (with_reducible refine htn.mono ?_); rintro e w13 ⟨rfl, rfl⟩)
                      | (go_at_call 56; (with_reducible refine hpa.mono ?_); rintro e w14 ⟨rfl, hS, hT⟩; have hm := Mem.of_eq HG3.out.drew.ar (hT.block ga HG3.out.drew.ar.lt (.inr (by have := HG3.out.st; omega))); have hq3 : w14.cell? ⟨ga, t, none⟩ = some (.pointer (some ⟨g, 0, none⟩)) := (by have h := ar_at hm t3; rw [up_at] at h; exact h); have hq2 := hm.frozen t; have hq1 : w14.cell? ⟨gp, 0, none⟩ = some (.pointer (some ⟨b, 0, none⟩)) := (World.cell?_of_block (hT.block gp HG3.out.drew.pa.lt (.inr (by have := HG3.out.st; omega)))).trans HG3.out.drew.p0))
                    have HG4 := Lib.hid (ts_passed HG3.out.drew t3 (up_at _ t _) hS hT)
                    clear hS hT hm hdn htn hpa r0 hat
                    go_wp2_with fail
                    go_roundw
                    case rel => exact ⟨t + 1, x + 1, _, by omega, by go_num, HG4.out, tk_none HT3.out t, lv_pass HL.out⟩
                    case measure => simp [intOf]; omega
                  · rw [if_neg hx] at HG3 HT3 hdn
                    have hdv : (((1 : Nat) : Int) == 2) = false := by decide
                    rw [hdv] at hdn
                    go_wp2_with (go_at_call 54; refine hdn.mono ?_; rintro e w12 ⟨rfl, rfl⟩)
                    go_roundw
                    case rel => exact ⟨t + 1, S, _, by omega, by go_num, HG3.out, HT3.out, lv_up HL.out ho hx⟩
                    case measure => simp [intOf]; omega
              · obtain rfl : t = 4 := by omega
                go_wp2_with fail
                go_roundw
                case rel => exact ⟨r + 1, S, p, by omega, by go_num, HG.out, HK.out, by have := lv_last HL.out (by omega) (by omega); omega⟩
                case measure => simp [intOf]; omega
          · obtain rfl : r = 4 := by omega
            obtain rfl : S = T := by omega
            have HA := Lib.hid (ar_of HG.out.ar (cnt_none HK.out (by omega)))
            have r0 := HG.out.p0
            have hgs := HG.out.st
            have himg := ts_image HG.out
            clear hcl0 hcb0 hd
            go_upto_region 31 with (go_at_call 26; refine himg.mono ?_; rintro e w14 ⟨e1, e2, e3, e4, e5, y1, y2, y3, y4, y5, k1, k2, k3, k4, k5, kc, rfl, hb14, hT⟩)
            have HB14 := Lib.hid hb14
            have HA2 := Lib.hid (Mem.of_eq HA.out (hT.block ga HA.out.lt (.inr (by omega))))
            have hga := HA2.out.lt
            have a0 := HA2.out.cell 0
            have a1 := HA2.out.cell 1
            have a2 := HA2.out.cell 2
            have a3 := HA2.out.cell 3
            simp at a0 a1 a2 a3
            have HBI := Lib.hid (below_new w14 (.cells #[.slice e1 y1 k1, .slice e2 y2 k2, .int .u64 kc, .int .u64 S, .int .u64 S, .slice e3 y3 k3, .slice e4 y4 k4, .slice e5 y5 k5] 46))
            clear hb14 hT himg r0 HA HG
            have heq : ∀ W : World, (Op.equalIn 10000 88 (.agg #[.pointer none, .pointer none, .pointer none, .pointer none]) (.agg #[.pointer none, .pointer none, .pointer none, .pointer none])).run Try.prog W = .ok true W := fun W => by kernel_rfl
            go_wp2_with (go_at_call 51; refine (TurL.l_awake _).mono ?_; rintro e w15 ⟨rfl, hb15⟩)
            have HBF := Lib.hid (below_trans2 HB0.out (below_trans2 HB14.out (below_trans2 HBI.out hb15)))
            go_ret
            exact ⟨rfl, .of_below HBF.out⟩

/-! The row's step. -/
set_option maxRecDepth 100000 in
theorem lifted (os : Os) (started : os.Started) (H : Type) (enc : TypeId × Value → H) :
    ReturnsInHanded {} Try.checked os 13 .any (Rows.turnLiveSpec.pre6 enc Try.prog Try.f13 Rows.turnLiveRow.domain false) (Rows.turnLiveSpec.post enc Try.prog Try.f13 false true false false) := by
  refine returnsInHanded_of_change (C := Try.checked) own started (by kernel_rfl) Try.func13
    (ChangeSpec.witness6 (enc := enc) (C := Try.checked) false ⟨#[], #[.agg #[.int .i64 0, .int .i64 0, .int .i64 0, .int .i64 0, .int .i64 0], .slice none 0 0], []⟩ 8 (by kernel_rfl) (by kernel_rfl) (by kernel_rfl) (by kernel_rfl)) ?_
  intro W base args ds gs before hval0 hW hcnd _
  have hval : ∀ (j : Nat) t v, Try.f13.params[j]? = some t → args[j]? = some v → Value.okWide Try.prog W .any base t v := hval0
  have hW' := hW
  obtain ⟨p, q, hA0, hV, rfl, hfz, hnd⟩ := hW
  have hA : DataW.TrodAll enc Try.prog W 0 (fun _ => true) true Try.f13.params.toList args.toList ds p := hA0
  rw [Try.params13] at hA hval
  obtain ⟨v0, vs0, d0, ds0, p0, q0, hargs, rfl, rfl, h0, r0⟩ := trodAll_cons hA
  obtain ⟨v1, vs1, d1, ds1, p1, q1, rfl, rfl, rfl, h1, r1⟩ := trodAll_cons r0
  obtain ⟨rfl, rfl, rfl⟩ := trodAll_nil r1
  obtain rfl : args = #[v0, v1] := by cases args; simp_all
  obtain ⟨rfl, rfl⟩ := trodVars_none hV
  have hk : ∀ W', Kept W W' → Rows.turnLiveSpec.post enc Try.prog Try.f13 false true false false W #[v0, v1] (.bool true) W' := fun W' hb =>
    post_law laidOut readable rfl Try.underlying4 rfl hW' rfl hb
  clear hA0 hval0 hA hW'
  obtain ⟨x0_0, x0_1, x0_2, x0_3, x0_4, rfl, wx0_0, wx0_1, wx0_2, wx0_3, wx0_4⟩ := LayO.open_arr5 (hval 0 22 v0 rfl rfl) h0
  obtain ⟨A1, n1, c1, z1, rfl, l1, m1, s1⟩ := open_slice Try.underlying74 Try.underlying3 cells3 (hval 1 74 v1 rfl rfl) h1
  refine (walk W x0_0 x0_1 x0_2 x0_3 x0_4 wx0_0 wx0_1 wx0_2 wx0_3 wx0_4 A1 n1 c1 z1 l1 m1 s1).mono fun e W' ⟨he, hg⟩ => ?_
  subst he
  exact ⟨_, rfl, hk W' hg⟩

theorem over : Rows.turnLiveRow.holds Try.pinned (OpenSpec.ofChange Rows.turnLiveSpec) :=
  OpenClaim.holds_of_wide 13 Try.f13 rfl rfl rfl rfl rfl rfl rfl ⟨rfl, rfl, rfl, rfl, rfl⟩ rfl rfl rfl rfl rfl (by kernel_rfl) Try.func13 (by kernel_rfl)
    (of_decide_eq_true (by kernel_rfl)) (by unfold Func.isWrapper; first | (rw [if_pos (by decide +kernel)]; kernel_rfl) | (rw [if_neg (by decide +kernel)]; exact ⟨rfl, rfl⟩))
    (fun os started H enc _ => lifted os started H enc)

/-- The statement. -/
theorem proved : Rows.TurnLiveSaid :=
  over
#print axioms proved
end Go.Proofs.Ytpdmmblcjidekaa.turnLive
