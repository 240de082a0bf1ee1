/-
  Proved: under every schedule at most one machine has the turn, and turns come in the order of the tickets, without gaps. No condition.
-/
import Derived.Test.YtpdmmblcjidekaaRows
import Derived.WalkKit
import Derived.ProofKit
import Derived.OpenShut
import Derived.Test.YtpdmmblcjidekaaFrame
import Derived.Test.YtpdmmblcjidekaaTurL
import Derived.Test.YtpdmmblcjidekaaLayO
import Derived.Test.YtpdmmblcjidekaaTurC
import Derived.Deep.RegionHeld3
import Derived.Deep.Cut
import Derived.Deep.DeepCutAuto
import Derived.Deep.CutBlock
namespace Go.Proofs.Ytpdmmblcjidekaa.turnExcludes
open Go.ChangeShapes Go.WideShapes Go.ChangeAt Go.RowKit
open LawFrame
open Go.ChangeMaps (open_string)
set_option linter.unusedVariables false

theorem own : ownKnob Try.prog.godebug = none := by kernel_rfl
theorem laidOut : laidOutB Try.prog = true := by kernel_rfl
theorem cells3 : Try.prog.cellsOf 3 = 1 := by kernel_rfl

open PlainT BlkW LayS LayA LayH LayK LayO LayP CelS CelM CelP CelV CelN CelO CelI CelB LabD LabR LabP LabS TurA TurB TurC
set_option maxHeartbeats 4000000
set_option maxRecDepth 100000
theorem iat {w0 w : World} {A : Option Addr} {n : Nat} {z : List Int} (h : Ints .i64 w0 A n z) (ho : Below w0.heap.size w0 w) {k : Nat} (hk : k < n) : ∃ b off x, A = some ⟨b, off, none⟩ ∧ b < w0.heap.size ∧ w.cell? ⟨b, off + k, none⟩ = some (.int .i64 x) := by
  obtain ⟨h1, h2, h3⟩ := h
  obtain ⟨b, off, rfl, hb, hc⟩ := h3 (by omega)
  exact ⟨b, off, _, rfl, hb, (World.cell?_of_block (ho.block b hb)).trans (hc k hk)⟩
theorem ar_at {w : World} {ga : Nat} {p : Nat → Th} (h : Mem w ga TA (aBox p)) {t : Nat} (h3 : t ≤ 3) : w.cell? ⟨ga, t, none⟩ = some (pt (p t)) := by
  have : t = 0 ∨ t = 1 ∨ t = 2 ∨ t = 3 := by omega
  rcases this with rfl | rfl | rfl | rfl
  · exact h.cell 0
  · exact h.cell 1
  · exact h.cell 2
  · exact h.cell 3
theorem pt_nil (o : Th) : ∃ a z, pt o = .pointer a ∧ o.isNone = z ∧ ∀ w, (binOp BinOp.eql 87 (.pointer a) (.pointer none)).run Try.prog w = .ok (.bool z) w := by
  cases o with
  | none => exact ⟨none, true, rfl, rfl, fun w => by kernel_rfl⟩
  | some x =>
    obtain ⟨g, st, k⟩ := x
    exact ⟨some ⟨g, 0, none⟩, false, rfl, rfl, fun w => by kernel_rfl⟩
theorem pt_none {a : Option Addr} (h : pt none = .pointer a) : none = a := by injection h
theorem pt_some {a : Option Addr} {g st : Nat} {k : Int} (h : pt (some (g, st, k)) = .pointer a) : some ⟨g, 0, none⟩ = a := by injection h
/-- Every machine has taken its ticket. -/
def Tk (p : Nat → Th) : Prop := ∀ t, t ≤ 3 → ∀ g st k, p t = some (g, st, k) → 1 ≤ st
theorem tk_up {p : Nat → Th} (h : Tk p) (t : Nat) {o : Th} (ho : ∀ g st k, o = some (g, st, k) → 1 ≤ st) : Tk (up p t o) := by
  intro u hu g st k hq
  by_cases e : u = t
  · subst e
    rw [up_at] at hq
    exact ho g st k hq
  · rw [up_ne e] at hq
    exact h u hu g st k hq
theorem tk_some {p : Nat → Th} (h : Tk p) (t g st : Nat) (k : Int) (hs : 1 ≤ st) : Tk (up p t (some (g, st, k))) := tk_up h t fun g' st' k' e => by injection e with e; injection e with _ e; injection e with e _; omega
theorem tk_none {p : Nat → Th} (h : Tk p) (t : Nat) : Tk (up p t none) := tk_up h t fun g' st' k' e => by cases e
/-- Among the first k threads c have the turn: none, or one. -/
def Hs (p : Nat → Th) (S : Int) (k : Nat) (c : Int) : Prop := (c = 0 ∧ True) ∨ (c = 1 ∧ ∃ u g, u < k ∧ u ≤ 3 ∧ p u = some (g, 2, S))
theorem hs_more {p : Nat → Th} {S : Int} {k : Nat} {c : Int} (h : Hs p S k c) : Hs p S (k + 1) c := by
  rcases h with h | ⟨h, u, g, h1, h2⟩
  · exact .inl h
  · exact .inr ⟨h, u, g, by omega, h2⟩
theorem hs_zero {p : Nat → Th} {S : Int} {k g : Nat} {c : Int} (h : Hs p S k c) (hd : ∀ t u, t ≤ 3 → u ≤ 3 → t ≠ u → twoT (p t) (p u)) (hk : k ≤ 3) (hp : p k = some (g, 2, S)) : c = 0 := by
  rcases h with h | ⟨h, u, g', h1, h3, h2⟩
  · exact h.1
  · have := hd u k h3 hk (by omega)
    rw [h2, hp] at this
    exact absurd rfl (this.2 (by omega) (by omega))
theorem tk_up2 {p : Nat → Th} {t g : Nat} {k T : Int} (h : Tk (up p t (some (g, 1, T)))) : Tk (up (up p t (some (g, 0, k))) t (some (g, 1, T))) := by
  intro u hu g' st' k' hq
  refine h u hu g' st' k' ?_
  rw [← hq]
  by_cases e : u = t
  · subst e
    rw [up_at, up_at]
  · rw [up_ne e, up_ne e, up_ne e]

theorem readable : ∀ t ∈ Try.f12.params.toList, Try.prog.readableRec t = true ∧ t < Try.prog.types.size := by
  have h : (Try.f12.params.toList.all fun t => Try.prog.readableRec t && decide (t < Try.prog.types.size)) = true := by kernel_rfl
  intro t ht
  have := List.all_eq_true.1 h t ht
  simpa using this

/-! The walk. -/
theorem walk (w : World) (x0_0 x0_1 x0_2 x0_3 x0_4 : Int) (wx0_0 : LayS.InI x0_0) (wx0_1 : LayS.InI x0_1) (wx0_2 : LayS.InI x0_2) (wx0_3 : LayS.InI x0_3) (wx0_4 : LayS.InI x0_4) (A1 : Option Addr) (n1 c1 : Nat) (z1 : List Int) (l1 : n1 ≤ c1) (m1 : c1 ≤ maxLen) (s1 : Ints .i64 w A1 n1 z1) :
    Calls Try.prog 12 #[.agg #[.int .i64 x0_0, .int .i64 x0_1, .int .i64 x0_2, .int .i64 x0_3, .int .i64 x0_4], .slice A1 n1 c1] w fun e w' => e = .returned (.bool true) ∧ Kept w w' := by
  show Calls _ _ #[.agg _, _] _ _
  clear wx0_0 wx0_1 wx0_2 wx0_3 wx0_4
  have HZ := Lib.hid s1
  clear s1
  have HB0 := Lib.hid (below_new w (.cells #[.int .i64 x0_0, .int .i64 x0_1, .int .i64 x0_2, .int .i64 x0_3, .int .i64 x0_4] 22))
  go_enter Try.func12, Try.ntmps12
  by_cases hbig : (100 : Int) < n1
  · go_wp2_with fail
    refine (TurL.l_awake _).mono ?_
    rintro e w3 ⟨rfl, hb1⟩
    have HB1 := Lib.hid (below_trans2 HB0.out hb1)
    clear hb1
    go_wp2
    go_ret
    exact ⟨rfl, .of_below HB1.out⟩
  · have hn80 : (n1 : Int) ≤ 100 := by omega
    clear hbig
    go_upto_region 4 with (go_at_call 28; refine (l_small _ _ _ _ _ _).mono ?_; rintro e w1 ⟨q, A, lo, hi, b, rb, rfl, hst⟩)
    obtain ⟨w0, hw0⟩ : ∃ w0, w.alloc (.cells #[.int .i64 x0_0, .int .i64 x0_1, .int .i64 x0_2, .int .i64 x0_3, .int .i64 x0_4] 22) = w0 := ⟨_, rfl⟩
    rw [hw0] at HB0 hst
    clear hw0
    have S0 := Lib.hid (ct_begun hst)
    have hlo := S0.out.lo
    have hle := S0.out.le
    clear hst
    have X1_gp := Lib.hid (Mem.new w1 TP #[.pointer (some ⟨b, 0, none⟩), .pointer (some ⟨rb, 0, none⟩)])
    have S1 := Lib.hid (S0.out.alloc (.cells #[.pointer (some ⟨b, 0, none⟩), .pointer (some ⟨rb, 0, none⟩)] TP))
    have hgp_top := S0.out.top
    obtain ⟨gp, hn⟩ : ∃ gp, w1.heap.size = gp := ⟨_, rfl⟩
    have Z_gp : Hid ((w1.alloc (.cells #[.pointer (some ⟨b, 0, none⟩), .pointer (some ⟨rb, 0, none⟩)] TP)).heap.size = gp + 1) := Lib.hid (by rw [size_new, hn])
    rw [hn] at X1_gp hgp_top 
    first | rw [hn] | skip
    clear hn 
    obtain ⟨W1, hW⟩ : ∃ W', w1.alloc (.cells #[.pointer (some ⟨b, 0, none⟩), .pointer (some ⟨rb, 0, none⟩)] TP) = W' := ⟨_, rfl⟩
    rw [hW] at X1_gp S1 Z_gp
    first | rw [hW] | skip
    clear hW
    clear S0
    have c1_gp_0 := Mem.cell X1_gp.out 0
    have c1_gp_1 := Mem.cell X1_gp.out 1
    simp at c1_gp_0 c1_gp_1
    go_upto_region 7 with (fail)
    have X2_gp := Lib.hid (X1_gp.out.alloc (.cells #[.pointer none, .pointer none, .pointer none, .pointer none] TA))
    have hga_gp : gp < W1.heap.size := X1_gp.out.lt
    have X2_ga := Lib.hid (Mem.new W1 TA #[.pointer none, .pointer none, .pointer none, .pointer none])
    have S2 := Lib.hid (S1.out.alloc (.cells #[.pointer none, .pointer none, .pointer none, .pointer none] TA))
    have hga_top := S1.out.top
    obtain ⟨ga, hn⟩ : ∃ ga, W1.heap.size = ga := ⟨_, rfl⟩
    have Z_ga : Hid ((W1.alloc (.cells #[.pointer none, .pointer none, .pointer none, .pointer none] TA)).heap.size = ga + 1) := Lib.hid (by rw [size_new, hn])
    rw [hn] at X2_ga hga_top hga_gp
    first | rw [hn] | skip
    clear hn c1_gp_0 c1_gp_1
    obtain ⟨W2, hW⟩ : ∃ W', W1.alloc (.cells #[.pointer none, .pointer none, .pointer none, .pointer none] TA) = W' := ⟨_, rfl⟩
    rw [hW] at X2_gp X2_ga S2 Z_ga
    first | rw [hW] | skip
    clear hW
    clear X1_gp S1
    have c2_gp_0 := Mem.cell X2_gp.out 0
    have c2_gp_1 := Mem.cell X2_gp.out 1
    have c2_ga_0 := Mem.cell X2_ga.out 0
    have c2_ga_1 := Mem.cell X2_ga.out 1
    have c2_ga_2 := Mem.cell X2_ga.out 2
    have c2_ga_3 := Mem.cell X2_ga.out 3
    simp at c2_gp_0 c2_gp_1 c2_ga_0 c2_ga_1 c2_ga_2 c2_ga_3
    have HG : Hid (TS w0 lo hi b rb q gp ga 0 0 (fun _ => none) W2) := Lib.hid ⟨S2.out, X2_gp.out, X2_ga.out, fun _ _ _ _ _ h => by (cases h), fun _ _ => trivial, fun _ _ _ _ _ => trivial, fun j h1 h2 => by omega, ⟨by omega, by omega, by omega, by omega⟩, by decide, by decide, by decide⟩
    clear c2_gp_0 c2_gp_1 c2_ga_0 c2_ga_1 c2_ga_2 c2_ga_3 X2_gp X2_ga S2 hlo hle
    go_wp2_with fail
    go_loopw [8, 9] (fun sv iv wr => ∃ (i : Nat) (T S : Int) (p : Nat → Th), iv = .int .i64 i ∧ sv = .int .i64 S ∧ TS w0 lo hi b rb q gp ga T S p wr ∧ Tk p ∧ i ≤ n1 ∧ T ≤ i) (fun _ iv _ => n1 - (intOf iv).toNat)
    case atStart => exact ⟨0, _, _, _, rfl, rfl, HG.out, fun t _ g st k h => by (cases h), by omega, by omega⟩
    case round =>
      clear HG
      obtain ⟨i, T, S, p, rfl, rfl, hrs, htk, hi1, hTi⟩ := hrel
      have HG := Lib.hid hrs
      have HK := Lib.hid htk
      clear hrs htk
      by_cases hlt : i < n1
      · have hltI : (i : Int) < n1 := by omega
        obtain ⟨tb, toff, tx, rfl, htb, htc⟩ := iat HZ.out (below_trans2 HB0.out HG.out.ct.old) hlt
        go_upto_block 2 with (go_at_call 16; refine (k_place_ex _ _ (by omega) (by omega) _).mono ?_; rintro e w9 ⟨u, u0, u1, rfl, rfl⟩)
        obtain ⟨t, ht⟩ : ∃ t : Nat, u = t := ⟨u.toNat, by omega⟩
        subst ht
        have t3 : t ≤ 3 := by omega
        have t4 : (t : Int) < 4 := by omega
        clear htc
        obtain ⟨v0, z0, hv0, hz0, hpt0⟩ := pt_nil (p t)
        have hat : wr.cell? ⟨ga, t, none⟩ = some (.pointer v0) := hv0 ▸ HG.out.at_ t3
        go_cut [8] (fun sv wc => ∃ (T' S' : Int) (p' : Nat → Th), sv = .int .i64 S' ∧ Hid (TS w0 lo hi b rb q gp ga T' S' p' wc) ∧ Hid (Tk p') ∧ T' ≤ i + 1)
        case first =>
          have r0 := HG.out.p0
          have hS1 := HG.out.cl
          rcases ho : p t with _ | ⟨g, st, x⟩
          · rw [ho] at hv0 hz0
            obtain rfl := pt_none hv0
            obtain rfl : true = z0 := hz0
            clear hpt0
            have HG2 := Lib.hid (ts_new HG.out t3 ho)
            have hgw : ga < wr.heap.size := HG.out.ar.lt
            rw [World.setCell_alloc_past _ _ _ _ hgw] at HG2
            have hal : (wr.alloc (.cells #[.int .i64 0, .int .i64 (-1)] TT)).cell? ⟨ga, t, none⟩ = some (.pointer none) := by
              have h := (HG.out.below (below_new wr (.cells #[.int .i64 0, .int .i64 (-1)] TT))).at_ t3
              rw [ho] at h
              exact h
            have haz := (HG.out.below (below_new wr (.cells #[.int .i64 0, .int .i64 (-1)] TT))).fz t
            go_upto_region 15 with (go_at_call 52; refine (t_new _).mono ?_; rintro e w10 ⟨rfl, rfl⟩)
            obtain ⟨g, hg⟩ : ∃ g, wr.heap.size = g := ⟨_, rfl⟩
            rw [hg] at HG2 hgw
            first | rw [hg] | skip
            obtain ⟨W2, hW2⟩ : ∃ W2, (wr.setCell ⟨ga, t, none⟩ (.pointer (some ⟨g, 0, none⟩))).alloc (.cells #[.int .i64 0, .int .i64 (-1)] TT) = W2 := ⟨_, rfl⟩
            rw [hW2] at HG2
            first | rw [hW2] | skip
            clear hW2 hg HG hal haz hat r0
            have r0 := HG2.out.p0
            have hat : W2.cell? ⟨ga, t, none⟩ = some (.pointer (some ⟨g, 0, none⟩)) := by
              have h := HG2.out.at_ t3
              rw [up_at] at h
              exact h
            have hst := ts_step0 HG2.out.drew t3 (up_at p t _) (by omega)
            have htk := tk_some HK.out t g 1 T (by omega)
            go_upto_region 17 with (fail)
            go_region_held3 (fun W => W.cell? ⟨ga, t, none⟩ = some (.pointer (some ⟨g, 0, none⟩)) ∧ W.cell? ⟨gp, 0, none⟩ = some (.pointer (some ⟨b, 0, none⟩))) (first | exact ⟨hat, r0⟩ | exact ⟨by assumption, by assumption⟩) (first
              | (go_at_call 58; (with_reducible refine hst.mono ?_); rintro e w11 ⟨⟨v, rfl⟩, hG⟩; have hb1 := hG.p0; have hb3 : w11.cell? ⟨ga, t, none⟩ = some (.pointer (some ⟨g, 0, none⟩)) := (by have h := hG.at_ t3; rw [up_at] at h; exact h)))
            have HG3 := Lib.hid hG
            have HT3 : Hid (Tk (up (up p t (some (g, 0, -1))) t (some (g, 1, T)))) := Lib.hid (tk_up2 htk)
            clear hG htk hst r0
            go_wp2_with fail
            all_goals go_meet
            all_goals exact ⟨T + 1, S, _, rfl, HG3, HT3, by omega⟩
          · have hst1 := HK.out t t3 g st x ho
            rw [ho] at hv0 hz0
            obtain rfl := pt_some hv0
            obtain rfl : false = z0 := hz0
            clear hpt0
            have hdn := t_done g _ _ wr (HG.out.en t t3 g st x ho).1
            by_cases h2 : st = 2
            · subst h2
              have hdv : (((2 : Nat) : Int) == 2) = true := by decide
              rw [hdv] at hdn
              obtain rfl : x = S := HG.out.has t3 ho
              have htn := t_ticket g _ _ wr.drew ((HG.out.drew).en t t3 g 2 x ho).1
              have hpa := c_pass HG.out.drew.ct x (by omega) (by have := HG.out.ok t t3; rw [ho] at this; rcases this with h | h | h <;> omega)
              go_upto_region 19 with (go_at_call 54; refine hdn.mono ?_; rintro e w12 ⟨rfl, rfl⟩)
              go_region_held3 (fun W => W.cell? ⟨ga, t, none⟩ = some (.pointer (some ⟨g, 0, none⟩)) ∧ W.cell? ⟨gp, 0, none⟩ = some (.pointer (some ⟨b, 0, none⟩))) (first | exact ⟨hat, r0⟩ | exact ⟨by assumption, by assumption⟩) (first
                | (go_at_call 55; (with_reducible refine htn.mono ?_); rintro e w13 ⟨rfl, rfl⟩)
                | (go_at_call 56; (with_reducible refine hpa.mono ?_); rintro e w14 ⟨rfl, hS, hT⟩; have hm := Mem.of_eq HG.out.drew.ar (hT.block ga HG.out.drew.ar.lt (.inr (by have := HG.out.st; omega))); have hq3 : w14.cell? ⟨ga, t, none⟩ = some (.pointer (some ⟨g, 0, none⟩)) := (by have h := ar_at hm t3; rw [ho] at h; exact h); have hq2 := hm.frozen t; have hq1 : w14.cell? ⟨gp, 0, none⟩ = some (.pointer (some ⟨b, 0, none⟩)) := (World.cell?_of_block (hT.block gp HG.out.drew.pa.lt (.inr (by have := HG.out.st; omega)))).trans HG.out.drew.p0))
              have HG3 := Lib.hid (ts_passed HG.out.drew t3 ho hS hT)
              have HT3 := Lib.hid (tk_none HK.out t)
              have hxT : x < T := by have := HG.out.ok t t3; rw [ho] at this; rcases this with h | h | h <;> omega
              have hw1 : IntKind.i64.wrap (x + 1) = x + 1 := IntWalk.i64_in _ (by omega)
              clear hS hT hm hdn htn hpa r0 hat
              go_wp2_with fail
              all_goals go_meet
              all_goals exact ⟨T, x + 1, _, rfl, HG3, HT3, by omega⟩
            · have hdv : ((st : Int) == 2) = false := by simp; omega
              rw [hdv] at hdn
              have hst := ts_step1 HG.out.drew t3 ho hst1
              have htk := tk_some HK.out t g (if x = S then 2 else 1) x (by split <;> omega)
              go_upto_region 12 with (go_at_call 54; refine hdn.mono ?_; rintro e w12 ⟨rfl, rfl⟩)
              go_region_held3 (fun W => W.cell? ⟨ga, t, none⟩ = some (.pointer (some ⟨g, 0, none⟩)) ∧ W.cell? ⟨gp, 0, none⟩ = some (.pointer (some ⟨b, 0, none⟩))) (first | exact ⟨hat, r0⟩ | exact ⟨by assumption, by assumption⟩) (first
                | (go_at_call 58; (with_reducible refine hst.mono ?_); rintro e w11 ⟨⟨v, rfl⟩, hG⟩; have hb1 := hG.p0; have hb3 : w11.cell? ⟨ga, t, none⟩ = some (.pointer (some ⟨g, 0, none⟩)) := (by have h := hG.at_ t3; rw [up_at] at h; exact h)))
              have HG3 := Lib.hid hG
              have HT3 := Lib.hid htk
              clear hG htk hst r0 hat hdn
              go_wp2_with fail
              all_goals go_meet
              all_goals exact ⟨T, S, _, rfl, HG3, HT3, by omega⟩
        case rest =>
          obtain ⟨T', S', p', rfl, HG', HT', hT'⟩ := hcut
          clear HG HK hat hv0 hz0 hpt0
          go_wp2_with fail
          go_loopw [11, 12] (fun hv kv wr2 => ∃ (k : Nat) (c : Int), k ≤ 4 ∧ kv = .int .i64 k ∧ hv = .int .i64 c ∧ Hs p' S' k c ∧ wr2 = wc) (fun _ kv _ => 4 - (intOf kv).toNat)
          case atStart => exact ⟨0, 0, by omega, rfl, rfl, .inl ⟨rfl, trivial⟩, rfl⟩
          case round =>
            obtain ⟨k, c, hk4, rfl, rfl, hhs, rfl⟩ := hrel
            have HH := Lib.hid hhs
            have hc01 : c = 0 ∨ c = 1 := by rcases hhs with h | h <;> omega
            clear hhs
            by_cases hk : k < 4
            · have hkI : (k : Int) < 4 := by omega
              have k3 : k ≤ 3 := by omega
              have hat := HG'.out.at_ k3
              rcases ho : p' k with _ | ⟨g, st, x⟩
              · rw [ho] at hat
                have hat2 : wr.cell? ⟨ga, k, none⟩ = some (.pointer none) := hat
                clear hat
                go_wp2_with fail
                go_roundw
                case rel => exact ⟨k + 1, c, by omega, by go_num, rfl, hs_more HH.out, by first | rfl | trivial⟩
                case measure => simp [intOf]; omega
              · rw [ho] at hat
                have hat2 : wr.cell? ⟨ga, k, none⟩ = some (.pointer (some ⟨g, 0, none⟩)) := hat
                clear hat
                have hdn := t_done g _ _ wr (HG'.out.en k k3 g st x ho).1
                have htn := t_ticket g _ _ wr (HG'.out.en k k3 g st x ho).1
                by_cases h2 : st = 2
                · subst h2
                  have hdv : (((2 : Nat) : Int) == 2) = true := by decide
                  rw [hdv] at hdn
                  obtain rfl : x = S' := HG'.out.has k3 ho
                  obtain rfl : c = 0 := hs_zero HH.out HG'.out.di k3 ho
                  go_wp2_with (first
                    | (go_at_call 54; refine hdn.mono ?_; rintro e w12 ⟨rfl, rfl⟩)
                    | (go_at_call 55; refine htn.mono ?_; rintro e w13 ⟨rfl, rfl⟩))
                  go_roundw
                  case rel => exact ⟨k + 1, 1, by omega, by go_num, rfl, .inr ⟨rfl, k, g, by omega, k3, ho⟩, by first | rfl | trivial⟩
                  case measure => simp [intOf]; omega
                · have hdv : ((st : Int) == 2) = false := by simp; omega
                  rw [hdv] at hdn
                  go_wp2_with (go_at_call 54; refine hdn.mono ?_; rintro e w12 ⟨rfl, rfl⟩)
                  go_roundw
                  case rel => exact ⟨k + 1, c, by omega, by go_num, rfl, hs_more HH.out, by first | rfl | trivial⟩
                  case measure => simp [intOf]; omega
            · obtain rfl : k = 4 := by omega
              have hc1 : ¬ (1 : Int) < c := by omega
              go_wp2_with fail
              go_roundw
              case rel => exact ⟨i + 1, T', S', p', by go_num, rfl, HG'.out, HT'.out, by omega, by omega⟩
              case measure => simp [intOf]; omega
      · obtain rfl : i = n1 := by omega
        go_wp2_with fail
        refine (TurL.l_awake _).mono ?_
        rintro e w6 ⟨rfl, hb6⟩
        have HB6 := Lib.hid (below_trans2 HB0.out (below_trans2 HG.out.ct.old hb6))
        clear hb6
        go_wp2
        go_ret
        exact ⟨rfl, .of_below HB6.out⟩

/-! The row's step. -/
set_option maxRecDepth 100000 in
theorem lifted (os : Os) (started : os.Started) (H : Type) (enc : TypeId × Value → H) :
    ReturnsInHanded {} Try.checked os 12 .any (Rows.turnExcludesSpec.pre6 enc Try.prog Try.f12 Rows.turnExcludesRow.domain false) (Rows.turnExcludesSpec.post enc Try.prog Try.f12 false true false false) := by
  refine returnsInHanded_of_change (C := Try.checked) own started (by kernel_rfl) Try.func12
    (ChangeSpec.witness6 (enc := enc) (C := Try.checked) false ⟨#[], #[.agg #[.int .i64 0, .int .i64 0, .int .i64 0, .int .i64 0, .int .i64 0], .slice none 0 0], []⟩ 8 (by kernel_rfl) (by kernel_rfl) (by kernel_rfl) (by kernel_rfl)) ?_
  intro W base args ds gs before hval0 hW hcnd _
  have hval : ∀ (j : Nat) t v, Try.f12.params[j]? = some t → args[j]? = some v → Value.okWide Try.prog W .any base t v := hval0
  have hW' := hW
  obtain ⟨p, q, hA0, hV, rfl, hfz, hnd⟩ := hW
  have hA : DataW.TrodAll enc Try.prog W 0 (fun _ => true) true Try.f12.params.toList args.toList ds p := hA0
  rw [Try.params12] at hA hval
  obtain ⟨v0, vs0, d0, ds0, p0, q0, hargs, rfl, rfl, h0, r0⟩ := trodAll_cons hA
  obtain ⟨v1, vs1, d1, ds1, p1, q1, rfl, rfl, rfl, h1, r1⟩ := trodAll_cons r0
  obtain ⟨rfl, rfl, rfl⟩ := trodAll_nil r1
  obtain rfl : args = #[v0, v1] := by cases args; simp_all
  obtain ⟨rfl, rfl⟩ := trodVars_none hV
  have hk : ∀ W', Kept W W' → Rows.turnExcludesSpec.post enc Try.prog Try.f12 false true false false W #[v0, v1] (.bool true) W' := fun W' hb =>
    post_law laidOut readable rfl Try.underlying4 rfl hW' rfl hb
  clear hA0 hval0 hA hW'
  obtain ⟨x0_0, x0_1, x0_2, x0_3, x0_4, rfl, wx0_0, wx0_1, wx0_2, wx0_3, wx0_4⟩ := LayO.open_arr5 (hval 0 22 v0 rfl rfl) h0
  obtain ⟨A1, n1, c1, z1, rfl, l1, m1, s1⟩ := open_slice Try.underlying74 Try.underlying3 cells3 (hval 1 74 v1 rfl rfl) h1
  refine (walk W x0_0 x0_1 x0_2 x0_3 x0_4 wx0_0 wx0_1 wx0_2 wx0_3 wx0_4 A1 n1 c1 z1 l1 m1 s1).mono fun e W' ⟨he, hg⟩ => ?_
  subst he
  exact ⟨_, rfl, hk W' hg⟩

theorem over : Rows.turnExcludesRow.holds Try.pinned (OpenSpec.ofChange Rows.turnExcludesSpec) :=
  OpenClaim.holds_of_wide 12 Try.f12 rfl rfl rfl rfl rfl rfl rfl ⟨rfl, rfl, rfl, rfl, rfl⟩ rfl rfl rfl rfl rfl (by kernel_rfl) Try.func12 (by kernel_rfl)
    (of_decide_eq_true (by kernel_rfl)) (by unfold Func.isWrapper; first | (rw [if_pos (by decide +kernel)]; kernel_rfl) | (rw [if_neg (by decide +kernel)]; exact ⟨rfl, rfl⟩))
    (fun os started H enc _ => lifted os started H enc)

/-- The statement. -/
theorem proved : Rows.TurnExcludesSaid :=
  over
#print axioms proved
end Go.Proofs.Ytpdmmblcjidekaa.turnExcludes
