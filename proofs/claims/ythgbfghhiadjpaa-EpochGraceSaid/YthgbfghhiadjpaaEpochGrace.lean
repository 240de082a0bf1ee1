/-
  Proved: what a fence guarantees, under every schedule of threads that enter and leave again and again while the clock advances: when a fence is over, no thread that entered before it began, with a snapshot less than its limit, is still active. No condition.
-/
import Derived.Test.YthgbfghhiadjpaaRows
import Derived.WalkKit
import Derived.ProofKit
import Derived.OpenShut
import Derived.Test.YthgbfghhiadjpaaFrame
import Derived.Test.YthgbfghhiadjpaaEpoL
import Derived.Test.YthgbfghhiadjpaaLayO
import Derived.Test.YthgbfghhiadjpaaEpoM
import Derived.Deep.RegionHeld3
import Derived.Deep.Cut
namespace Go.Proofs.Ythgbfghhiadjpaa.epochGrace
open Go.ChangeShapes Go.WideShapes Go.ChangeAt Go.RowKit
open LawFrame
open Go.ChangeMaps (open_string)
set_option linter.unusedVariables false

theorem own : ownKnob Try.prog.godebug = none := by kernel_rfl
theorem laidOut : laidOutB Try.prog = true := by kernel_rfl
theorem cells3 : Try.prog.cellsOf 3 = 1 := by kernel_rfl

open PlainT BlkW LayS LayA LayH LayK LayO LayP CelS CelM CelP CelV CelN CelO CelI CelF CelB LabD LabR LabP LabS WordC EpoA EpoF EpoS EpoM
set_option maxHeartbeats 4000000
set_option maxRecDepth 100000
theorem own4 {w : World} {B : Nat} {v : Value} {s : List Int} (h : OwnU w B v s) (hl : s.length = 4) : ∃ g cap, v = .slice (some ⟨g, 0, none⟩) 4 cap ∧ ∀ j : Nat, j < 4 → w.cell? ⟨g, j, none⟩ = some (.int .u64 (s.getD j 0)) := by
  obtain ⟨g, cap, cur, rfl, _, _, _, hc⟩ := own_cells h (by omega)
  rw [hl]
  refine ⟨g, cap, rfl, fun j hj => ?_⟩
  rw [hc j (by omega)]
  unfold us
  rw [List.getElem?_map, List.getD_eq_getElem?_getD, List.getElem?_eq_getElem (by omega)]
  rfl
theorem img5 (d o l h n : Value) (c t s : Int) (w : World) : (Instr.field 44 (imgV d o c t s l h n) 5).run Try.prog w = .ok l w := by kernel_rfl
theorem iat {w0 w : World} {A : Option Addr} {n : Nat} {z : List Int} (h : Ints .i64 w0 A n z) (ho : Below w0.heap.size w0 w) {k : Nat} (hk : k < n) : ∃ b off x, A = some ⟨b, off, none⟩ ∧ b < w0.heap.size ∧ w.cell? ⟨b, off + k, none⟩ = some (.int .i64 x) := by
  obtain ⟨h1, h2, h3⟩ := h
  obtain ⟨b, off, rfl, hb, hc⟩ := h3 (by omega)
  exact ⟨b, off, _, rfl, hb, (World.cell?_of_block (ho.block b hb)).trans (hc k hk)⟩
def pf (o : Option (Nat × Nat × Int)) : Value := match o with | none => .pointer none | some (g, _, _) => .pointer (some ⟨g, 0, none⟩)
/-- What the loop carries. -/
structure RS (w0 : World) (lo hi b rb : Nat) (q : Cfg) (gp ga : Nat) (n i : Nat) (c : Int) (s : List Int) (p : Nat → Th) (fp : Option (Nat × Nat × Int)) (w : World) : Prop where
  g : GS w0 lo hi b rb q gp ga c s p fp w
  hi : i ≤ n
  hc : c ≤ 2 * (i : Int)
  k : ∀ g k l, fp = some (g, k, l) → k ≤ 3
theorem ar_at {w : World} {ga : Nat} {p : Nat → Th} (h : Mem w ga TA (aBox p)) {t : Nat} (h1 : 1 ≤ t) (h3 : t ≤ 3) : w.cell? ⟨ga, t, none⟩ = some (pt (p t)) := by
  have : t = 1 ∨ t = 2 ∨ t = 3 := by omega
  rcases this with rfl | rfl | rfl
  · exact h.cell 1
  · exact h.cell 2
  · exact h.cell 3

theorem readable : ∀ t ∈ Try.f13.params.toList, Try.prog.readableRec t = true ∧ t < Try.prog.types.size := by
  have h : (Try.f13.params.toList.all fun t => Try.prog.readableRec t && decide (t < Try.prog.types.size)) = true := by kernel_rfl
  intro t ht
  have := List.all_eq_true.1 h t ht
  simpa using this

/-! The walk. -/
theorem walk (w : World) (x0_0 x0_1 x0_2 x0_3 x0_4 : Int) (wx0_0 : LayS.InI x0_0) (wx0_1 : LayS.InI x0_1) (wx0_2 : LayS.InI x0_2) (wx0_3 : LayS.InI x0_3) (wx0_4 : LayS.InI x0_4) (A1 : Option Addr) (n1 c1 : Nat) (z1 : List Int) (l1 : n1 ≤ c1) (m1 : c1 ≤ maxLen) (s1 : Ints .i64 w A1 n1 z1) :
    Calls Try.prog 13 #[.agg #[.int .i64 x0_0, .int .i64 x0_1, .int .i64 x0_2, .int .i64 x0_3, .int .i64 x0_4], .slice A1 n1 c1] w fun e w' => e = .returned (.bool true) ∧ Kept w w' := by
  show Calls _ _ #[.agg _, _] _ _
  clear wx0_0 wx0_1 wx0_2 wx0_3 wx0_4
  have HZ := Lib.hid s1
  clear s1
  have HB0 := Lib.hid (below_new w (.cells #[.int .i64 x0_0, .int .i64 x0_1, .int .i64 x0_2, .int .i64 x0_3, .int .i64 x0_4] 22))
  go_enter Try.func13, Try.ntmps13
  by_cases hbig : (80 : Int) < n1
  · go_wp2_with fail
    refine (EpoL.l_awake _).mono ?_
    rintro e w3 ⟨rfl, hb1⟩
    have HB1 := Lib.hid (below_trans2 HB0.out hb1)
    clear hb1
    go_wp2
    go_ret
    exact ⟨rfl, .of_below HB1.out⟩
  · have hn80 : (n1 : Int) ≤ 80 := by omega
    clear hbig
    go_upto_region 4 with (go_at_call 34; refine (l_small _ _ _ _ _ _).mono ?_; rintro e w1 ⟨q, A, lo, hi, b, rb, rfl, hst⟩)
    obtain ⟨w0, hw0⟩ : ∃ w0, w.alloc (.cells #[.int .i64 x0_0, .int .i64 x0_1, .int .i64 x0_2, .int .i64 x0_3, .int .i64 x0_4] 22) = w0 := ⟨_, rfl⟩
    rw [hw0] at HB0 hst
    clear hw0
    have S0 := Lib.hid (sl_begun hst)
    have hlo := S0.out.lo
    have hle := S0.out.le
    clear hst
    have X1_gp := Lib.hid (Mem.new w1 TP #[.pointer (some ⟨b, 0, none⟩), .pointer (some ⟨rb, 0, none⟩)])
    have S1 := Lib.hid (S0.out.alloc (.cells #[.pointer (some ⟨b, 0, none⟩), .pointer (some ⟨rb, 0, none⟩)] TP))
    have hgp_top := S0.out.top
    obtain ⟨gp, hn⟩ : ∃ gp, w1.heap.size = gp := ⟨_, rfl⟩
    have Z_gp : Hid ((w1.alloc (.cells #[.pointer (some ⟨b, 0, none⟩), .pointer (some ⟨rb, 0, none⟩)] TP)).heap.size = gp + 1) := Lib.hid (by rw [size_new, hn])
    rw [hn] at X1_gp hgp_top 
    first | rw [hn] | skip
    clear hn 
    obtain ⟨W1, hW⟩ : ∃ W', w1.alloc (.cells #[.pointer (some ⟨b, 0, none⟩), .pointer (some ⟨rb, 0, none⟩)] TP) = W' := ⟨_, rfl⟩
    rw [hW] at X1_gp S1 Z_gp
    first | rw [hW] | skip
    clear hW
    clear S0
    have c1_gp_0 := Mem.cell X1_gp.out 0
    have c1_gp_1 := Mem.cell X1_gp.out 1
    simp at c1_gp_0 c1_gp_1
    go_upto_region 7 with (fail)
    have X2_gp := Lib.hid (X1_gp.out.alloc (.cells #[.pointer none, .pointer none, .pointer none, .pointer none] 93))
    have hga_gp : gp < W1.heap.size := X1_gp.out.lt
    have X2_ga := Lib.hid (Mem.new W1 93 #[.pointer none, .pointer none, .pointer none, .pointer none])
    have S2 := Lib.hid (S1.out.alloc (.cells #[.pointer none, .pointer none, .pointer none, .pointer none] 93))
    have hga_top := S1.out.top
    obtain ⟨ga, hn⟩ : ∃ ga, W1.heap.size = ga := ⟨_, rfl⟩
    have Z_ga : Hid ((W1.alloc (.cells #[.pointer none, .pointer none, .pointer none, .pointer none] 93)).heap.size = ga + 1) := Lib.hid (by rw [size_new, hn])
    rw [hn] at X2_ga hga_top hga_gp
    first | rw [hn] | skip
    clear hn c1_gp_0 c1_gp_1
    obtain ⟨W2, hW⟩ : ∃ W', W1.alloc (.cells #[.pointer none, .pointer none, .pointer none, .pointer none] 93) = W' := ⟨_, rfl⟩
    rw [hW] at X2_gp X2_ga S2 Z_ga
    first | rw [hW] | skip
    clear hW
    clear X1_gp S1
    have c2_gp_0 := Mem.cell X2_gp.out 0
    have c2_gp_1 := Mem.cell X2_gp.out 1
    have c2_ga_0 := Mem.cell X2_ga.out 0
    have c2_ga_1 := Mem.cell X2_ga.out 1
    have c2_ga_2 := Mem.cell X2_ga.out 2
    have c2_ga_3 := Mem.cell X2_ga.out 3
    simp at c2_gp_0 c2_gp_1 c2_ga_0 c2_ga_1 c2_ga_2 c2_ga_3
    have HG : Hid (GS w0 lo hi b rb q gp ga 0 [0, 0, 0, 0] (fun _ => none) none W2) := Lib.hid ⟨S2.out, X2_gp.out, X2_ga.out, fun _ _ _ _ _ _ h => by (cases h), fun _ _ _ h => by (cases h), fun t h1 h3 => by (have : t = 1 ∨ t = 2 ∨ t = 3 := by omega); rcases this with rfl | rfl | rfl <;> rfl, fun _ _ _ h => by (cases h), ⟨by omega, by omega, by omega, by omega⟩, by decide, by decide, rfl⟩
    clear c2_gp_0 c2_gp_1 c2_ga_0 c2_ga_1 c2_ga_2 c2_ga_3 X2_gp X2_ga S2 hlo hle
    go_wp2_with fail
    go_loopw [8, 9, 10] (fun fv cv iv wr => ∃ (i : Nat) (c : Int) (s : List Int) (p : Nat → Th) (fp : Option (Nat × Nat × Int)), iv = .int .i64 i ∧ cv = .int .u64 c ∧ fv = pf fp ∧ RS w0 lo hi b rb q gp ga n1 i c s p fp wr) (fun _ _ iv _ => n1 - (intOf iv).toNat)
    case atStart => exact ⟨0, 0, _, _, none, rfl, rfl, rfl, HG.out, by omega, by omega, fun _ _ _ h => by (cases h)⟩
    case round =>
      clear HG
      obtain ⟨i, c, s, p, fp, rfl, rfl, rfl, hrs⟩ := hrel
      have HG := Lib.hid hrs.g
      have hi1 := hrs.hi
      have hci := hrs.hc
      have HK := Lib.hid hrs.k
      have hc0 := hrs.g.cl.1
      clear hrs
      by_cases hlt : i < n1
      · have hltI : (i : Int) < n1 := by omega
        obtain ⟨tb, toff, tx, rfl, htb, htc⟩ := iat HZ.out (below_trans2 HB0.out HG.out.sl.old) hlt
        have r0 := HG.out.p0
        have r1 := HG.out.p1
        go_upto_region 13 with (go_at_call 16; refine (k_place_ex _ _ (by omega) (by omega) _).mono ?_; rintro e w9 ⟨u, u0, u1, rfl, rfl⟩)
        by_cases u4 : u = 4
        · subst u4
          go_upto_region 15 with (go_at_call 16; refine (k_place_ex _ _ (by omega) (by omega) _).mono ?_; rintro e w10 ⟨d, d0, d1, rfl, rfl⟩; have hwd : IntKind.u64.wrap d = d := IntWalk.u64_in d (by omega); have hwc : IntKind.u64.wrap (c + d) = c + d := IntWalk.u64_in _ (by omega))
          have hset := gs_clock HG.out (c + d) (by omega) (by omega)
          clear htc
          go_wp2_with (go_at_call 35; refine hset.mono ?_; rintro e w11 ⟨rfl, hG⟩)
          go_roundw
          case rel => exact ⟨i + 1, c + d, s, p, fp, by go_num, rfl, rfl, hG, by omega, by omega, HK.out⟩
          case measure => simp [intOf]; omega
        have e4 : (u == 4) = false := by simpa using u4
        by_cases u5 : u = 5 ∨ u = 0
        · rcases u5 with u5 | u5
          · subst u5
            clear e4 u4
            match fp, HG, HK with
            | none, HG, HK =>
              simp only [pf]
              go_upto_region 20 with (go_at_call 48; refine (f_new _ _ _).mono ?_; rintro e w10 ⟨rfl, rfl⟩)
              have HG2 := Lib.hid (HG.out.below (below_new wr (.cells #[.int .i64 0, .int .i64 0, .int .i64 4, .int .i64 0, .int .i64 (-1)] TF)))
              have HF2 := Lib.hid (Mem.new wr TF #[.int .i64 0, .int .i64 0, .int .i64 4, .int .i64 0, .int .i64 (-1)])
              have hgw : ga < wr.heap.size := HG.out.ar.lt
              obtain ⟨g, hg⟩ : ∃ g, wr.heap.size = g := ⟨_, rfl⟩
              rw [hg] at HF2 hgw
              first | rw [hg] | skip
              obtain ⟨W2, hW2⟩ : ∃ W2, wr.alloc (.cells #[.int .i64 0, .int .i64 0, .int .i64 4, .int .i64 0, .int .i64 (-1)] TF) = W2 := ⟨_, rfl⟩
              rw [hW2] at HG2 HF2
              first | rw [hW2] | skip
              clear hW2 hg HG htc r0 r1
              have r0 := HG2.out.p0
              have hst := gs_f0 HG2.out hgw HF2.out
              go_upto_region 23 with (go_at_call 53; refine hst.mono ?_; rintro e w11 ⟨⟨v, rfl⟩, hG⟩)
              have HG3 := Lib.hid hG
              have hdn := f_done g _ _ _ _ _ w11 (HG3.out.fe g 1 c rfl).1
              have hdv : (fsv 4 ((1 : Nat) : Int) == 2) = false := by decide
              rw [hdv] at hdn
              clear hG hst r0
              go_wp2_with (go_at_call 50; refine hdn.mono ?_; rintro e w12 ⟨rfl, rfl⟩)
              go_roundw
              case rel => exact ⟨i + 1, c, s, p, some (g, 1, c), by go_num, rfl, rfl, HG3.out, by omega, by omega, fun g' k' l' h => by injection h with h; injection h with _ h; injection h with h _; omega⟩
              case measure => simp [intOf]; omega
            | some (g, k, l), HG, HK =>
              simp only [pf]
              have hk3 := HK.out g k l rfl
              have hst := gs_f1 HG.out hk3
              clear htc
              go_upto_region 23 with (go_at_call 53; refine hst.mono ?_; rintro e w11 ⟨⟨v, rfl⟩, k', k1, k4, hG⟩)
              have HG3 := Lib.hid hG
              have hdn := f_done g _ _ _ _ _ w11 (HG3.out.fe g k' l rfl).1
              clear hG hst r0 r1 HG HK
              by_cases hk4 : k' = 4
              · subst hk4
                have hdv : (fsv 4 ((4 : Nat) : Int) == 2) = true := by decide
                rw [hdv] at hdn
                go_wp2_with (go_at_call 50; refine hdn.mono ?_; rintro e w12 ⟨rfl, rfl⟩)
                go_loopw [12] (fun jv wr2 => ∃ j : Nat, 1 ≤ j ∧ j ≤ 4 ∧ jv = .int .i64 j ∧ GS w0 lo hi b rb q gp ga c s p (some (g, 4, l)) wr2) (fun jv _ => 4 - (intOf jv).toNat)
                case atStart => exact ⟨1, by omega, by omega, rfl, HG3.out⟩
                case round =>
                  clear HG3 hdn
                  obtain ⟨j, j1, j4, rfl, hG⟩ := hrel
                  have HG3 := Lib.hid hG
                  clear hG
                  by_cases hj : j < 4
                  · have hjI : (j : Int) < 4 := by omega
                    have r0 := HG3.out.p0
                    have himg := gs_image HG3.out
                    have hxo := HG3.out.ok j j1 (by omega)
                    have hxs := HG3.out.sa g 4 l rfl j j1 hj (by omega)
                    have hlen := HG3.out.cl.2.2
                    obtain ⟨x, hx⟩ : ∃ x, s.getD j 0 = x := ⟨_, rfl⟩
                    rw [hx] at hxo
                    go_upto_region 28 with (go_at_call 25; refine himg.mono ?_; rintro e w14 ⟨vd, vo, k1, k2, k3, vl, vh, vn, rfl, hown, hG⟩; obtain ⟨gv, cap, rfl, hcs⟩ := own4 hown hlen; have hf5 := img5 vd vo (.slice (some ⟨gv, 0, none⟩) 4 cap) vh vn k1 k2 k3 w14; have hcell := hcs j hj; rw [hx] at hcell; clear hcs)
                    have HG4 := Lib.hid hG
                    have hxr := okT_in hxo HG4.out.cl.2.1 HG4.out.cl.1
                    obtain ⟨hfm, _, _, _, hl0, hlc⟩ := HG4.out.fe g 4 l rfl
                    have hlc2 := HG4.out.cl.2.1
                    have hlm := f_limit g _ _ _ _ _ w14 hfm
                    clear himg hown hf5 hcell hG HG3 r0 hfm hx
                    by_cases hx2 : 2 ≤ x
                    · have hge := okT_check hxo hxs hx2
                      have hwx : IntKind.u64.wrap (x - 2) = x - 2 := IntWalk.u64_in _ (by omega)
                      have hwl : IntKind.u64.wrap l = l := IntWalk.u64_in _ (by omega)
                      go_wp2_with (go_at_call 52; refine hlm.mono ?_; rintro e w15 ⟨rfl, rfl⟩)
                      refine ⟨⟨j + 1, by omega, by omega, by go_num, HG4.out⟩, ?_⟩
                      simp [intOf]
                      omega
                    · have hx3 : decide (2 ≤ x) = false := decide_eq_false hx2
                      clear hx2
                      go_wp2_with fail
                      go_roundw
                      case rel => exact ⟨j + 1, by omega, by omega, by go_num, HG4.out⟩
                      case measure => simp [intOf]; omega
                  · obtain rfl : j = 4 := by omega
                    go_wp2_with fail
                    go_roundw
                    case rel => exact ⟨i + 1, c, s, p, none, by go_num, rfl, rfl, HG3.out.over, by omega, by omega, fun _ _ _ h => by (cases h)⟩
                    case measure => simp [intOf]; omega
              · have hk3' : k' ≤ 3 := by omega
                have hdv : (fsv 4 (k' : Int) == 2) = false := by unfold fsv; rw [if_neg (by omega)]; rfl
                rw [hdv] at hdn
                go_wp2_with (go_at_call 50; refine hdn.mono ?_; rintro e w12 ⟨rfl, rfl⟩)
                go_roundw
                case rel => exact ⟨i + 1, c, s, p, some (g, k', l), by go_num, rfl, rfl, HG3.out, by omega, by omega, fun g' k2 l' h => by injection h with h; injection h with _ h; injection h with h _; omega⟩
                case measure => simp [intOf]; omega
          · subst u5
            clear e4 u4
            match fp, HG, HK with
            | none, HG, HK =>
              simp only [pf]
              go_upto_region 20 with (go_at_call 48; refine (f_new _ _ _).mono ?_; rintro e w10 ⟨rfl, rfl⟩)
              have HG2 := Lib.hid (HG.out.below (below_new wr (.cells #[.int .i64 0, .int .i64 0, .int .i64 4, .int .i64 0, .int .i64 (-1)] TF)))
              have HF2 := Lib.hid (Mem.new wr TF #[.int .i64 0, .int .i64 0, .int .i64 4, .int .i64 0, .int .i64 (-1)])
              have hgw : ga < wr.heap.size := HG.out.ar.lt
              obtain ⟨g, hg⟩ : ∃ g, wr.heap.size = g := ⟨_, rfl⟩
              rw [hg] at HF2 hgw
              first | rw [hg] | skip
              obtain ⟨W2, hW2⟩ : ∃ W2, wr.alloc (.cells #[.int .i64 0, .int .i64 0, .int .i64 4, .int .i64 0, .int .i64 (-1)] TF) = W2 := ⟨_, rfl⟩
              rw [hW2] at HG2 HF2
              first | rw [hW2] | skip
              clear hW2 hg HG htc r0 r1
              have r0 := HG2.out.p0
              have hst := gs_f0 HG2.out hgw HF2.out
              go_upto_region 23 with (go_at_call 53; refine hst.mono ?_; rintro e w11 ⟨⟨v, rfl⟩, hG⟩)
              have HG3 := Lib.hid hG
              have hdn := f_done g _ _ _ _ _ w11 (HG3.out.fe g 1 c rfl).1
              have hdv : (fsv 4 ((1 : Nat) : Int) == 2) = false := by decide
              rw [hdv] at hdn
              clear hG hst r0
              go_wp2_with (go_at_call 50; refine hdn.mono ?_; rintro e w12 ⟨rfl, rfl⟩)
              go_roundw
              case rel => exact ⟨i + 1, c, s, p, some (g, 1, c), by go_num, rfl, rfl, HG3.out, by omega, by omega, fun g' k' l' h => by injection h with h; injection h with _ h; injection h with h _; omega⟩
              case measure => simp [intOf]; omega
            | some (g, k, l), HG, HK =>
              simp only [pf]
              have hk3 := HK.out g k l rfl
              have hst := gs_f1 HG.out hk3
              clear htc
              go_upto_region 23 with (go_at_call 53; refine hst.mono ?_; rintro e w11 ⟨⟨v, rfl⟩, k', k1, k4, hG⟩)
              have HG3 := Lib.hid hG
              have hdn := f_done g _ _ _ _ _ w11 (HG3.out.fe g k' l rfl).1
              clear hG hst r0 r1 HG HK
              by_cases hk4 : k' = 4
              · subst hk4
                have hdv : (fsv 4 ((4 : Nat) : Int) == 2) = true := by decide
                rw [hdv] at hdn
                go_wp2_with (go_at_call 50; refine hdn.mono ?_; rintro e w12 ⟨rfl, rfl⟩)
                go_loopw [12] (fun jv wr2 => ∃ j : Nat, 1 ≤ j ∧ j ≤ 4 ∧ jv = .int .i64 j ∧ GS w0 lo hi b rb q gp ga c s p (some (g, 4, l)) wr2) (fun jv _ => 4 - (intOf jv).toNat)
                case atStart => exact ⟨1, by omega, by omega, rfl, HG3.out⟩
                case round =>
                  clear HG3 hdn
                  obtain ⟨j, j1, j4, rfl, hG⟩ := hrel
                  have HG3 := Lib.hid hG
                  clear hG
                  by_cases hj : j < 4
                  · have hjI : (j : Int) < 4 := by omega
                    have r0 := HG3.out.p0
                    have himg := gs_image HG3.out
                    have hxo := HG3.out.ok j j1 (by omega)
                    have hxs := HG3.out.sa g 4 l rfl j j1 hj (by omega)
                    have hlen := HG3.out.cl.2.2
                    obtain ⟨x, hx⟩ : ∃ x, s.getD j 0 = x := ⟨_, rfl⟩
                    rw [hx] at hxo
                    go_upto_region 28 with (go_at_call 25; refine himg.mono ?_; rintro e w14 ⟨vd, vo, k1, k2, k3, vl, vh, vn, rfl, hown, hG⟩; obtain ⟨gv, cap, rfl, hcs⟩ := own4 hown hlen; have hf5 := img5 vd vo (.slice (some ⟨gv, 0, none⟩) 4 cap) vh vn k1 k2 k3 w14; have hcell := hcs j hj; rw [hx] at hcell; clear hcs)
                    have HG4 := Lib.hid hG
                    have hxr := okT_in hxo HG4.out.cl.2.1 HG4.out.cl.1
                    obtain ⟨hfm, _, _, _, hl0, hlc⟩ := HG4.out.fe g 4 l rfl
                    have hlc2 := HG4.out.cl.2.1
                    have hlm := f_limit g _ _ _ _ _ w14 hfm
                    clear himg hown hf5 hcell hG HG3 r0 hfm hx
                    by_cases hx2 : 2 ≤ x
                    · have hge := okT_check hxo hxs hx2
                      have hwx : IntKind.u64.wrap (x - 2) = x - 2 := IntWalk.u64_in _ (by omega)
                      have hwl : IntKind.u64.wrap l = l := IntWalk.u64_in _ (by omega)
                      go_wp2_with (go_at_call 52; refine hlm.mono ?_; rintro e w15 ⟨rfl, rfl⟩)
                      refine ⟨⟨j + 1, by omega, by omega, by go_num, HG4.out⟩, ?_⟩
                      simp [intOf]
                      omega
                    · have hx3 : decide (2 ≤ x) = false := decide_eq_false hx2
                      clear hx2
                      go_wp2_with fail
                      go_roundw
                      case rel => exact ⟨j + 1, by omega, by omega, by go_num, HG4.out⟩
                      case measure => simp [intOf]; omega
                  · obtain rfl : j = 4 := by omega
                    go_wp2_with fail
                    go_roundw
                    case rel => exact ⟨i + 1, c, s, p, none, by go_num, rfl, rfl, HG3.out.over, by omega, by omega, fun _ _ _ h => by (cases h)⟩
                    case measure => simp [intOf]; omega
              · have hk3' : k' ≤ 3 := by omega
                have hdv : (fsv 4 (k' : Int) == 2) = false := by unfold fsv; rw [if_neg (by omega)]; rfl
                rw [hdv] at hdn
                go_wp2_with (go_at_call 50; refine hdn.mono ?_; rintro e w12 ⟨rfl, rfl⟩)
                go_roundw
                case rel => exact ⟨i + 1, c, s, p, some (g, k', l), by go_num, rfl, rfl, HG3.out, by omega, by omega, fun g' k2 l' h => by injection h with h; injection h with _ h; injection h with h _; omega⟩
                case measure => simp [intOf]; omega
        · have e5 : (u == 5) = false := by simp; omega
          have e0 : (u == 0) = false := by simp; omega
          obtain ⟨t, ht⟩ : ∃ t : Nat, u = t := ⟨u.toNat, by omega⟩
          subst ht
          have t1 : 1 ≤ t := by omega
          have t3 : t ≤ 3 := by omega
          have t4 : (t : Int) < 4 := by omega
          rcases ho : p t with _ | ⟨g, st, v⟩
          · have hat : wr.cell? ⟨ga, t, none⟩ = some (.pointer none) := by
              have := HG.out.at_ t1 t3
              rw [ho] at this
              exact this
            have HG2 := Lib.hid (gs_new HG.out t1 t3 ho)
            have hgw : ga < wr.heap.size := HG.out.ar.lt
            rw [World.setCell_alloc_past _ _ _ _ hgw] at HG2
            have hal : (wr.alloc (.cells #[.int .i64 0, .int .i64 t, .int .i64 (-1)] TE)).cell? ⟨ga, t, none⟩ = some (.pointer none) := by
              have h := (HG.out.below (below_new wr (.cells #[.int .i64 0, .int .i64 t, .int .i64 (-1)] TE))).at_ t1 t3
              rw [ho] at h
              exact h
            have haz := (HG.out.below (below_new wr (.cells #[.int .i64 0, .int .i64 t, .int .i64 (-1)] TE))).fz t
            clear htc
            go_upto_region 33 with (go_at_call 36; refine (e_new _ _).mono ?_; rintro e w10 ⟨rfl, rfl⟩)
            obtain ⟨g, hg⟩ : ∃ g, wr.heap.size = g := ⟨_, rfl⟩
            rw [hg] at HG2 hgw
            first | rw [hg] | skip
            obtain ⟨W2, hW2⟩ : ∃ W2, (wr.setCell ⟨ga, t, none⟩ (.pointer (some ⟨g, 0, none⟩))).alloc (.cells #[.int .i64 0, .int .i64 t, .int .i64 (-1)] TE) = W2 := ⟨_, rfl⟩
            rw [hW2] at HG2
            first | rw [hW2] | skip
            clear hW2 hg HG hal haz hat r0 r1
            have r0 := HG2.out.p0
            have hat : W2.cell? ⟨ga, t, none⟩ = some (.pointer (some ⟨g, 0, none⟩)) := by
              have h := HG2.out.at_ t1 t3
              rw [up_at] at h
              exact h
            have hst := gs_step HG2.out.drew t1 t3 (up_at p t _) (by omega)
            go_upto_region 35 with (fail)
            go_region_held3 (fun W => W.cell? ⟨ga, t, none⟩ = some (.pointer (some ⟨g, 0, none⟩)) ∧ W.cell? ⟨gp, 0, none⟩ = some (.pointer (some ⟨b, 0, none⟩))) (first | exact ⟨hat, r0⟩ | exact ⟨by assumption, by assumption⟩) (first
              | (go_at_call 41; (with_reducible refine hst.mono ?_); rintro e w11 ⟨⟨v, rfl⟩, s', v', hG⟩; have hb1 := hG.p0; have hb3 : w11.cell? ⟨ga, t, none⟩ = some (.pointer (some ⟨g, 0, none⟩)) := (by have h := hG.at_ t1 t3; rw [up_at] at h; exact h)))
            go_wp2_with fail
            go_roundw
            case rel => exact ⟨i + 1, c, s', _, fp, by go_num, rfl, rfl, hG, by omega, by omega, HK.out⟩
            case measure => simp [intOf]; omega
          · have hat : wr.cell? ⟨ga, t, none⟩ = some (.pointer (some ⟨g, 0, none⟩)) := by
              have := HG.out.at_ t1 t3
              rw [ho] at this
              exact this
            have hdn := e_done g _ _ _ wr (HG.out.en t t1 t3 g st v ho).1
            have hok := HG.out.ok t t1 t3
            rw [ho] at hok
            have hst3 : st ≤ 3 := by rcases hok with h | h | h | h <;> omega
            clear hok
            by_cases h3 : st = 3
            · subst h3
              have hdv : (((3 : Nat) : Int) == 3) = true := by decide
              rw [hdv] at hdn
              have hlv := l_leave HG.out.sl t (by have := HG.out.cl.2.2; omega) _ rfl
              go_upto_region 38 with (go_at_call 38; refine hdn.mono ?_; rintro e w12 ⟨rfl, rfl⟩)
              go_upto_if 123 with (go_at_call 16; refine (k_place_ex _ _ (by omega) (by omega) _).mono ?_; rintro e w13 ⟨y, y0, y1, rfl, rfl⟩)
              by_cases hy : y = 0
              · subst hy
                clear htc
                go_wp2_with (go_at_call 44; refine hlv.mono ?_; rintro e w14 ⟨rfl, hS, hT⟩; have hG := Lib.hid (gs_left HG.out t1 t3 hS hT); have hm := Mem.of_eq HG.out.ar (hT.block ga HG.out.ar.lt (.inr (by have := HG.out.st; omega))); have hq3 : w14.cell? ⟨ga, t, none⟩ = some (.pointer (some ⟨g, 0, none⟩)) := (by have h := ar_at hm t1 t3; rw [ho] at h; exact h); have hq2 := hm.frozen t)
                go_roundw
                case rel => exact ⟨i + 1, c, _, _, fp, by go_num, rfl, rfl, hG.out, by omega, by omega, HK.out⟩
                case measure => simp [intOf]; omega
              · have hyb : (y == 0) = false := by simpa using hy
                clear htc hlv
                go_wp2_with fail
                go_roundw
                case rel => exact ⟨i + 1, c, s, p, fp, by go_num, rfl, rfl, HG.out, by omega, by omega, HK.out⟩
                case measure => simp [intOf]; omega
            · have hdv : ((st : Int) == 3) = false := by simp; omega
              rw [hdv] at hdn
              have hst := gs_step HG.out.drew t1 t3 ho (by omega)
              clear htc
              go_upto_region 37 with (go_at_call 38; refine hdn.mono ?_; rintro e w12 ⟨rfl, rfl⟩)
              go_region_held3 (fun W => W.cell? ⟨ga, t, none⟩ = some (.pointer (some ⟨g, 0, none⟩)) ∧ W.cell? ⟨gp, 0, none⟩ = some (.pointer (some ⟨b, 0, none⟩))) (first | exact ⟨hat, r0⟩ | exact ⟨by assumption, by assumption⟩) (first
                | (go_at_call 41; (with_reducible refine hst.mono ?_); rintro e w11 ⟨⟨v, rfl⟩, s', v', hG⟩; have hb1 := hG.p0; have hb3 : w11.cell? ⟨ga, t, none⟩ = some (.pointer (some ⟨g, 0, none⟩)) := (by have h := hG.at_ t1 t3; rw [up_at] at h; exact h)))
              go_wp2_with fail
              go_roundw
              case rel => exact ⟨i + 1, c, s', _, fp, by go_num, rfl, rfl, hG, by omega, by omega, HK.out⟩
              case measure => simp [intOf]; omega
      · obtain rfl : i = n1 := by omega
        go_wp2_with fail
        refine (EpoL.l_awake _).mono ?_
        rintro e w6 ⟨rfl, hb6⟩
        have HB6 := Lib.hid (below_trans2 HB0.out (below_trans2 HG.out.sl.old hb6))
        clear hb6
        go_wp2
        go_ret
        exact ⟨rfl, .of_below HB6.out⟩

/-! The row's step. -/
set_option maxRecDepth 100000 in
theorem lifted (os : Os) (started : os.Started) (H : Type) (enc : TypeId × Value → H) :
    ReturnsInHanded {} Try.checked os 13 .any (Rows.epochGraceSpec.pre6 enc Try.prog Try.f13 Rows.epochGraceRow.domain false) (Rows.epochGraceSpec.post enc Try.prog Try.f13 false true false false) := by
  refine returnsInHanded_of_change (C := Try.checked) own started (by kernel_rfl) Try.func13
    (ChangeSpec.witness6 (enc := enc) (C := Try.checked) false ⟨#[], #[.agg #[.int .i64 0, .int .i64 0, .int .i64 0, .int .i64 0, .int .i64 0], .slice none 0 0], []⟩ 8 (by kernel_rfl) (by kernel_rfl) (by kernel_rfl) (by kernel_rfl)) ?_
  intro W base args ds gs before hval0 hW hcnd _
  have hval : ∀ (j : Nat) t v, Try.f13.params[j]? = some t → args[j]? = some v → Value.okWide Try.prog W .any base t v := hval0
  have hW' := hW
  obtain ⟨p, q, hA0, hV, rfl, hfz, hnd⟩ := hW
  have hA : DataW.TrodAll enc Try.prog W 0 (fun _ => true) true Try.f13.params.toList args.toList ds p := hA0
  rw [Try.params13] at hA hval
  obtain ⟨v0, vs0, d0, ds0, p0, q0, hargs, rfl, rfl, h0, r0⟩ := trodAll_cons hA
  obtain ⟨v1, vs1, d1, ds1, p1, q1, rfl, rfl, rfl, h1, r1⟩ := trodAll_cons r0
  obtain ⟨rfl, rfl, rfl⟩ := trodAll_nil r1
  obtain rfl : args = #[v0, v1] := by cases args; simp_all
  obtain ⟨rfl, rfl⟩ := trodVars_none hV
  have hk : ∀ W', Kept W W' → Rows.epochGraceSpec.post enc Try.prog Try.f13 false true false false W #[v0, v1] (.bool true) W' := fun W' hb =>
    post_law laidOut readable rfl Try.underlying4 rfl hW' rfl hb
  clear hA0 hval0 hA hW'
  obtain ⟨x0_0, x0_1, x0_2, x0_3, x0_4, rfl, wx0_0, wx0_1, wx0_2, wx0_3, wx0_4⟩ := LayO.open_arr5 (hval 0 22 v0 rfl rfl) h0
  obtain ⟨A1, n1, c1, z1, rfl, l1, m1, s1⟩ := open_slice Try.underlying84 Try.underlying3 cells3 (hval 1 84 v1 rfl rfl) h1
  refine (walk W x0_0 x0_1 x0_2 x0_3 x0_4 wx0_0 wx0_1 wx0_2 wx0_3 wx0_4 A1 n1 c1 z1 l1 m1 s1).mono fun e W' ⟨he, hg⟩ => ?_
  subst he
  exact ⟨_, rfl, hk W' hg⟩

theorem over : Rows.epochGraceRow.holds Try.pinned (OpenSpec.ofChange Rows.epochGraceSpec) :=
  OpenClaim.holds_of_wide 13 Try.f13 rfl rfl rfl rfl rfl rfl rfl ⟨rfl, rfl, rfl, rfl, rfl⟩ rfl rfl rfl rfl rfl (by kernel_rfl) Try.func13 (by kernel_rfl)
    (of_decide_eq_true (by kernel_rfl)) (by unfold Func.isWrapper; first | (rw [if_pos (by decide +kernel)]; kernel_rfl) | (rw [if_neg (by decide +kernel)]; exact ⟨rfl, rfl⟩))
    (fun os started H enc _ => lifted os started H enc)

/-- The statement. -/
theorem proved : Rows.EpochGraceSaid :=
  over
#print axioms proved
end Go.Proofs.Ythgbfghhiadjpaa.epochGrace
