/-
  Proved: a log with any capacity has the entries, the index and the answers of the document after each word that is written. No condition.
-/
import Derived.Test.YtelpimhgodkmlaaRows
import Derived.WalkKit
import Derived.ProofKit
import Derived.OpenShut
import Derived.Test.YtelpimhgodkmlaaFrame
import Derived.Test.YtelpimhgodkmlaaRlF
import Derived.Deep.RegionHeld3
import Derived.Test.YtelpimhgodkmlaaRgn
import Derived.Deep.RegionLaw
import Derived.Deep.Cut
import Derived.Deep.DeepCutAuto
namespace Go.Proofs.Ytelpimhgodkmlaa.redoFollows
open Go.ChangeShapes Go.WideShapes Go.ChangeAt Go.RowKit
open LawFrame
open Go.ChangeMaps (open_string)
set_option linter.unusedVariables false

theorem own : ownKnob Try.prog.godebug = none := by kernel_rfl
theorem laidOut : laidOutB Try.prog = true := by kernel_rfl

open PlainT BlkW CelS CelM CelV CelN LabD FreV FreI RsA RlU RlP RlA RlB RlC RlD RlE RlF
set_option maxHeartbeats 8000000
set_option maxRecDepth 100000
def Apart (L1 L2 : LV) : Prop := ∀ x, Blks L1 x → ¬ Blks L2 x
theorem Apart.symm {L1 L2 : LV} (h : Apart L1 L2) : Apart L2 L1 := fun x h1 h2 => h x h2 h1
theorem apart_left {w w' : World} {B cap : Nat} {t : TypeId} {L1 L1' L2 : LV} {ad vs ix : List Int} (h : LogIs w B t cap L2 ad vs ix) (ha : Apart L1 L2) (hF : Fr (Blks L1) w w') (hb : ∀ y, Blks L1' y → Blks L1 y ∨ w.heap.size ≤ y) : LogIs w' B t cap L2 ad vs ix ∧ Apart L1' L2 :=
  ⟨h.fr hF fun x h2 h1 => ha x h1 h2, fun x h1 h2 => by
    rcases hb x h1 with h3 | h3
    · exact ha x h3 h2
    · have := (h.lt h2).2
      omega⟩
theorem put_lv {cap : Nat} {ad vs : List Int} {x v : Int} (h : vs.length = ad.length) : (putV cap ad vs x v).length = (putA cap ad x).length := by
  by_cases hin : x ∈ ad
  · rw [show putA cap ad x = ad from if_neg fun c => c.2.1 hin, show putV cap ad vs x v = vs.set (ad.idxOf x) v from if_pos hin, List.length_set]
    exact h
  · by_cases hc : 0 ≤ x ∧ ad.length < cap
    · rw [show putA cap ad x = ad ++ [x] from if_pos ⟨hc.1, hin, hc.2⟩, show putV cap ad vs x v = vs ++ [v] by unfold putV; rw [if_neg hin, if_pos hc], List.length_append, List.length_append, h]
      rfl
    · rw [show putA cap ad x = ad from if_neg fun c => hc ⟨c.1, c.2.2⟩, show putV cap ad vs x v = vs by unfold putV; rw [if_neg hin, if_neg hc]]
      exact h
/-- Both logs side by side. -/
structure Duo (w0 : World) (q g1 g2 : Nat) (L1 L2 : LV) (ad vs ix : List Int) (w : World) : Prop where
  p : LogIs w w0.heap.size TL q L1 ad vs ix
  r : LogIs w w0.heap.size TK q L2 ad vs ix
  e1 : L1.g = g1
  e2 : L2.g = g2
  ap : Apart L1 L2
  be : Below w0.heap.size w0 w
theorem Duo.below {w0 : World} {q g1 g2 : Nat} {L1 L2 : LV} {ad vs ix : List Int} {w w' : World} (h : Duo w0 q g1 g2 L1 L2 ad vs ix w) (k : Below w.heap.size w w') : Duo w0 q g1 g2 L1 L2 ad vs ix w' := ⟨h.p.below k, h.r.below k, h.e1, h.e2, h.ap, h.be.trans (k.mono h.be.size)⟩
theorem Duo.drewN {w0 : World} {q g1 g2 : Nat} {L1 L2 : LV} {ad vs ix : List Int} {w : World} (h : Duo w0 q g1 g2 L1 L2 ad vs ix w) (n : Nat) : Duo w0 q g1 g2 L1 L2 ad vs ix (w.drewN n) := h.below (below_drewN (Below.refl _ w) n)
/-- What the reference's log reads as behind its Put, and where the copies lie. -/
structure Gh where
  a : Option Addr
  ca : Nat
  v : Option Addr
  cv : Nat
  i : Option Addr
  ci : Nat
  y1 : Nat
  y2 : Nat
  y3 : Nat
/-- What holds of the world while the long condition is reckoned. -/
def Tst (W0 w00 : World) (q g1 g2 : Nat) (L2 : LV) (ad vs ix ad2 vs2 ix2 : List Int) (c7 c15 c29 c34 c39 c44 c49 c54 : Bool) (g : Gh) (w : World) : Prop :=
  match c7, c15 with
  | false, _ => w = W0
  | true, false => ∃ L1, LogIs w w00.heap.size TL q L1 ad2 vs2 ix2 ∧ L1.g = g1 ∧ LogIs w w00.heap.size TK q L2 ad vs ix ∧ L2.g = g2 ∧ Apart L1 L2 ∧ Below w00.heap.size w00 w
  | true, true => (∃ L1, Duo w00 q g1 g2 L1 ⟨g2, .slice g.a ad2.length g.ca, .slice g.v ad2.length g.cv, .slice g.i ix2.length g.ci⟩ ad2 vs2 ix2 w) ∧ (c29 = true → c34 = false → Mem w g.y1 TI (IA ad2)) ∧ (c39 = true → c44 = false → Mem w g.y2 TU (WA vs2)) ∧ (c49 = true → c54 = false → Mem w g.y3 TI (IA ix2))
section
variable {W0 w00 : World} {q g1 g2 : Nat} {L2 : LV} {ad vs ix ad2 vs2 ix2 : List Int} {c7 c15 c29 c34 c39 c44 c49 c54 : Bool} {g : Gh} {w : World}
theorem tst_below (h0 : Below w00.heap.size w00 W0) (h : Tst W0 w00 q g1 g2 L2 ad vs ix ad2 vs2 ix2 c7 c15 c29 c34 c39 c44 c49 c54 g w) : Below w00.heap.size w00 w := by
  cases c7 <;> cases c15
  · have : w = W0 := h
    rw [this]
    exact h0
  · have : w = W0 := h
    rw [this]
    exact h0
  · obtain ⟨_, _, _, _, _, _, h1⟩ := h
    exact h1
  · obtain ⟨⟨_, h1⟩, _⟩ := h
    exact h1.be
theorem tst_cella (h : Tst W0 w00 q g1 g2 L2 ad vs ix ad2 vs2 ix2 true true c29 c34 c39 c44 c49 c54 g w) : w.cell? ⟨g2, 1, none⟩ = some (.slice g.a ad2.length g.ca) := by
  obtain ⟨⟨_, h1⟩, _⟩ := h
  exact h1.r.box.cell 1
theorem tst_cellv (h : Tst W0 w00 q g1 g2 L2 ad vs ix ad2 vs2 ix2 true true c29 c34 c39 c44 c49 c54 g w) : w.cell? ⟨g2, 2, none⟩ = some (.slice g.v ad2.length g.cv) := by
  obtain ⟨⟨_, h1⟩, _⟩ := h
  exact h1.r.box.cell 2
theorem tst_celli (h : Tst W0 w00 q g1 g2 L2 ad vs ix ad2 vs2 ix2 true true c29 c34 c39 c44 c49 c54 g w) : w.cell? ⟨g2, 3, none⟩ = some (.slice g.i ix2.length g.ci) := by
  obtain ⟨⟨_, h1⟩, _⟩ := h
  exact h1.r.box.cell 3
end

theorem readable : ∀ t ∈ Try.f3.params.toList, Try.prog.readableRec t = true ∧ t < Try.prog.types.size := by
  have h : (Try.f3.params.toList.all fun t => Try.prog.readableRec t && decide (t < Try.prog.types.size)) = true := by kernel_rfl
  intro t ht
  have := List.all_eq_true.1 h t ht
  simpa using this

/-! The walk. -/
theorem walk (w : World) (a0 : Int) (w0 : (Lit.int .i64 a0).wf = true) (A1 : Option Addr) (n1 c1 : Nat) (l1 : n1 ≤ c1) (m1 : c1 ≤ maxLen) (s1 : RlF.RowU w A1 n1) (a2 : Bool) :
    Calls Try.prog 3 #[.int .i64 a0, .slice A1 n1 c1, .bool a2] w fun e w' => e = .returned (.bool true) ∧ Kept w w' := by
  have HZ := Lib.hid s1
  clear s1
  go_enter Try.func3, Try.ntmps3
  by_cases hbig : (50 : Int) < n1
  · go_wp2_with fail
    refine (RlE.l_awake _).mono ?_
    rintro e w3 ⟨rfl, hb1⟩
    have HB1 := Lib.hid hb1
    clear hb1
    go_wp2
    go_ret
    exact ⟨rfl, .of_below HB1.out⟩
  · have hn : (n1 : Int) ≤ 50 := by omega
    clear hbig
    obtain ⟨q, hq⟩ : ∃ q : Nat, (max 0 (min a0 32) : Int) = q := ⟨(max 0 (min a0 32) : Int).toNat, by omega⟩
    have hnw := a_new w a0 q hq
    have hrw := fun w => r_new w a0 q hq
    clear hq
    go_upto_region 6 with (first
      | (go_at_call 9; refine hnw.mono ?_; rintro e w2 ⟨⟨g1, va, vv, vi⟩, rfl, hS0, hB0⟩)
      | (go_at_call 10; refine (hrw _).mono ?_; rintro e w3 ⟨⟨g2, ua, uv, ui⟩, rfl, hR0, hB1⟩))
    have hT0 : Duo w q g1 g2 ⟨g1, va, vv, vi⟩ ⟨g2, ua, uv, ui⟩ [] [] (List.replicate (siz q) (-1)) w3 :=
      ⟨hS0.below hB1, LogIs.base hR0 hB0.size, rfl, rfl, fun x h1 h2 => by
        have := (hS0.lt h1).2
        have := (hR0.lt h2).1
        omega, hB0.trans (hB1.mono hB0.size)⟩
    have HT0 := Lib.hid hT0
    clear hnw hrw hS0 hR0 hB0 hB1 hT0
    go_wp2_with fail
    go_loopw [9] (fun kv wr => ∃ (k : Nat) (L1 L2 : LV) (ad vs ix : List Int), k ≤ n1 ∧ kv = .int .i64 k ∧ Duo w q g1 g2 L1 L2 ad vs ix wr) (fun kv _ => n1 - (intOf kv).toNat)
    case atStart => exact ⟨0, _, _, [], [], _, by omega, rfl, HT0.out⟩
    case round =>
      clear HT0
      obtain ⟨k, L1, L2, ad, vs, ix, hk, rfl, ht⟩ := hrel
      have HT := Lib.hid ht
      have HZQ := Lib.hid ht.be
      clear ht
      by_cases hlt : k < n1
      · have hltI : (k : Int) < n1 := by omega
        obtain ⟨b, off, rfl, hb0, hc⟩ := HZ.out (by omega)
        obtain ⟨tx, v, e0, e1⟩ := hc k hlt
        have htc : wr.cell? ⟨b, off + k * 2, none⟩ = some (.int .i64 tx) := (World.cell?_of_block (HT.out.be.block b hb0)).trans e0
        have HE := Lib.hid e1
        obtain ⟨t12, ht12⟩ : ∃ t, pl tx 30 = t := ⟨_, rfl⟩
        have hpl := k_place tx 30 t12 (by decide) (by decide) ht12
        have hpi := pl_in tx 30 (by decide) (by decide)
        rw [ht12] at hpi
        clear ht12 hc e0 e1
        go_upto_if 40 with (fail)
        go_cut [10] (fun s wc => ∃ t : Int, s = .int .i64 t ∧ wc = wr)
        case first =>
          cases a2 with
          | false =>
            go_wp2_with fail
            all_goals go_meet
            all_goals exact ⟨_, rfl, rfl⟩
          | true =>
            go_wp2_with (go_at_call 11; refine (hpl _).mono ?_; rintro e w1 ⟨rfl, rfl⟩)
            all_goals go_meet
            all_goals exact ⟨_, rfl, rfl⟩
        case rest =>
          obtain ⟨t, rfl, rfl⟩ := hcut
          clear hpl htc hpi
          obtain ⟨t1, ht1⟩ : ∃ t1, IntKind.i64.wrap (t + 1) = t1 := ⟨_, rfl⟩
          obtain ⟨rr, hr⟩ : ∃ r, putR q ad t = r := ⟨_, rfl⟩
          obtain ⟨ad2, ha⟩ : ∃ l, putA q ad t = l := ⟨_, rfl⟩
          obtain ⟨vs2, hv⟩ : ∃ l, putV q ad vs t v = l := ⟨_, rfl⟩
          obtain ⟨ix2, hx⟩ : ∃ l, putX q ad ix t = l := ⟨_, rfl⟩
          obtain ⟨n, hnn⟩ : ∃ n, ad2.length = n := ⟨_, rfl⟩
          obtain ⟨s, hmm⟩ : ∃ n, ix2.length = n := ⟨_, rfl⟩
          obtain ⟨p0, hp0⟩ : ∃ z, getV ad2 vs2 t = z := ⟨_, rfl⟩
          obtain ⟨b0, hb00⟩ : ∃ z, getB ad2 t = z := ⟨_, rfl⟩
          obtain ⟨p1, hp1⟩ : ∃ z, getV ad2 vs2 t1 = z := ⟨_, rfl⟩
          obtain ⟨b1, hb1⟩ : ∃ z, getB ad2 t1 = z := ⟨_, rfl⟩
          have HR := Lib.hid hr
          have HA := Lib.hid ha
          have HV := Lib.hid hv
          have HX := Lib.hid hx
          have HN := Lib.hid hnn
          have HM := Lib.hid hmm
          have HP0 := Lib.hid hp0
          have HB0 := Lib.hid hb00
          have HP1 := Lib.hid hp1
          have HB1 := Lib.hid hb1
          have HTD : Hid (Duo w q g1 g2 L1 L2 ad vs ix wc.drew) := Lib.hid (HT.out.drewN 1)
          have HBD := Lib.hid HTD.out.be
          have hcp1 := a_put_to HTD.out.p HTD.out.be.size t v rr ad2 vs2 ix2 hr ha hv hx
          rw [HTD.out.e1] at hcp1
          have hlv2 : vs2.length = ad2.length := by
            rw [← ha, ← hv]
            exact put_lv HT.out.p.ok.lv
          have HNV : Hid (vs2.length = n) := Lib.hid (by rw [hlv2, hnn])
          clear hr ha hv hx hnn hmm hp0 hb00 hp1 hb1 HT hlv2
          go_upto_region 12 with (fail)
          refine Rgn.region_lists (by kernel_rfl) [some 44, some 45, some 46, some 47, some 48, some 49, some 50, some 51, some 52, some 53, some 54, some 55, some 56, some 57, some 58, some 59, some 60, some 61, some 62, some 63, some 64, some 65, some 66, some 67, some 68, some 69, some 70, some 71, some 72, some 73, some 74, some 75, some 76, some 77, some 78, some 79, some 80, some 81, some 82, some 83, some 84, some 85, some 86, some 87, some 88, some 89, some 90, some 91, some 92, some 93, some 94, some 95, some 96, some 97, some 98, some 99, some 100]
            (fun g => [.pointer (some ⟨g1, 0, none⟩), .int .i64 t, .slice (some ⟨b, off, none⟩) n1 c1, .int .i64 k, .pointer (some ⟨b, off + k * 2, none⟩), .pointer (some ⟨b, off + k * 2 + 1, none⟩), .int .u64 v, .bool rr, .pointer (some ⟨g2, 0, none⟩), .int .i64 t, .slice (some ⟨b, off, none⟩) n1 c1, .int .i64 k, .pointer (some ⟨b, off + k * 2, none⟩), .pointer (some ⟨b, off + k * 2 + 1, none⟩), .int .u64 v, .bool rr, .bool false, .bool false, .pointer (some ⟨g1, 0, none⟩), .int .i64 n, .pointer (some ⟨g2, 0, none⟩), .pointer (some ⟨g2, 0, none⟩), .pointer (some ⟨g2, 1, none⟩), .slice g.a n g.ca, .int .i64 n, .bool false, .bool false, .bool false, .pointer (some ⟨g1, 0, none⟩), .slice (some ⟨g.y1, 0, none⟩) n n, .pointer (some ⟨g2, 0, none⟩), .pointer (some ⟨g2, 0, none⟩), .pointer (some ⟨g2, 1, none⟩), .slice g.a n g.ca, .bool true, .bool false, .bool false, .bool false, .pointer (some ⟨g1, 0, none⟩), .slice (some ⟨g.y2, 0, none⟩) n n, .pointer (some ⟨g2, 0, none⟩), .pointer (some ⟨g2, 0, none⟩), .pointer (some ⟨g2, 2, none⟩), .slice g.v n g.cv, .bool true, .bool false, .bool false, .bool false, .pointer (some ⟨g1, 0, none⟩), .slice (some ⟨g.y3, 0, none⟩) s s, .pointer (some ⟨g2, 0, none⟩), .pointer (some ⟨g2, 0, none⟩), .pointer (some ⟨g2, 3, none⟩), .slice g.i s g.ci, .bool true, .bool false, .bool false])
            (fun g L w9 => Tst wc.drew w q g1 g2 L2 ad vs ix ad2 vs2 ix2 (L 7) (L 15) (L 29) (L 34) (L 39) (L 44) (L 49) (L 54) g w9) ⟨none, 0, none, 0, none, 0, 0, 0, 0⟩ 57 146 (by kernel_rfl) (by kernel_rfl) (fun _ => rfl) (by kernel_rfl) (by kernel_rfl) rfl ?_ ?_
          · intro i hi g L a wq hS hLi hup hdn hold hv K hK
            have hi' : i = 0 ∨ i = 1 ∨ i = 2 ∨ i = 3 ∨ i = 4 ∨ i = 5 ∨ i = 6 ∨ i = 7 ∨ i = 8 ∨ i = 9 ∨ i = 10 ∨ i = 11 ∨ i = 12 ∨ i = 13 ∨ i = 14 ∨ i = 15 ∨ i = 16 ∨ i = 17 ∨ i = 18 ∨ i = 19 ∨ i = 20 ∨ i = 21 ∨ i = 22 ∨ i = 23 ∨ i = 24 ∨ i = 25 ∨ i = 26 ∨ i = 27 ∨ i = 28 ∨ i = 29 ∨ i = 30 ∨ i = 31 ∨ i = 32 ∨ i = 33 ∨ i = 34 ∨ i = 35 ∨ i = 36 ∨ i = 37 ∨ i = 38 ∨ i = 39 ∨ i = 40 ∨ i = 41 ∨ i = 42 ∨ i = 43 ∨ i = 44 ∨ i = 45 ∨ i = 46 ∨ i = 47 ∨ i = 48 ∨ i = 49 ∨ i = 50 ∨ i = 51 ∨ i = 52 ∨ i = 53 ∨ i = 54 ∨ i = 55 ∨ i = 56 := by omega
            clear hi
            rcases hi' with rfl | rfl | rfl | rfl | rfl | rfl | rfl | rfl | rfl | rfl | rfl | rfl | rfl | rfl | rfl | rfl | rfl | rfl | rfl | rfl | rfl | rfl | rfl | rfl | rfl | rfl | rfl | rfl | rfl | rfl | rfl | rfl | rfl | rfl | rfl | rfl | rfl | rfl | rfl | rfl | rfl | rfl | rfl | rfl | rfl | rfl | rfl | rfl | rfl | rfl | rfl | rfl | rfl | rfl | rfl | rfl | rfl
            · have q7 : a.tmps[7]?.getD undef = .pointer (some ⟨g1, 0, none⟩) := (hold 7 (by kernel_rfl)).trans (by kernel_rfl)
              have HS := Lib.hid hS
              clear hS hup hdn hold hv hLi
              refine Rgn.op_of rfl rfl ?_
              go_simp
              exact hK _ _ (fun _ _ _ => rfl) HS.out
            · have q10 : a.tmps[10]?.getD undef = .int .i64 t := (hold 10 (by kernel_rfl)).trans (by kernel_rfl)
              have HS := Lib.hid hS
              clear hS hup hdn hold hv hLi
              refine Rgn.op_of rfl rfl ?_
              go_simp
              exact hK _ _ (fun _ _ _ => rfl) HS.out
            · have q1 : a.tmps[1]?.getD undef = .slice (some ⟨b, off, none⟩) n1 c1 := (hold 1 (by kernel_rfl)).trans (by kernel_rfl)
              have HS := Lib.hid hS
              clear hS hup hdn hold hv hLi
              refine Rgn.op_of rfl rfl ?_
              go_simp
              exact hK _ _ (fun _ _ _ => rfl) HS.out
            · have q9 : a.tmps[9]?.getD undef = .int .i64 k := (hold 9 (by kernel_rfl)).trans (by kernel_rfl)
              have HS := Lib.hid hS
              clear hS hup hdn hold hv hLi
              refine Rgn.op_of rfl rfl ?_
              go_simp
              exact hK _ _ (fun _ _ _ => rfl) HS.out
            · have q46 : a.tmps[46]?.getD undef = .slice (some ⟨b, off, none⟩) n1 c1 := hv 2 46 (by kernel_rfl) (by kernel_rfl)
              have q47 : a.tmps[47]?.getD undef = .int .i64 k := hv 3 47 (by kernel_rfl) (by kernel_rfl)
              have HS := Lib.hid hS
              clear hS hup hdn hold hv hLi
              refine Rgn.op_of rfl rfl ?_
              go_simp
              exact hK _ _ (fun _ _ _ => rfl) HS.out
            · have q48 : a.tmps[48]?.getD undef = .pointer (some ⟨b, off + k * 2, none⟩) := hv 4 48 (by kernel_rfl) (by kernel_rfl)
              have HS := Lib.hid hS
              clear hS hup hdn hold hv hLi
              refine Rgn.op_of rfl rfl ?_
              go_simp
              exact hK _ _ (fun _ _ _ => rfl) HS.out
            · have q49 : a.tmps[49]?.getD undef = .pointer (some ⟨b, off + k * 2 + 1, none⟩) := hv 5 49 (by kernel_rfl) (by kernel_rfl)
              have h0 : Tst wc.drew w q g1 g2 L2 ad vs ix ad2 vs2 ix2 (L 7) (L 15) (L 29) (L 34) (L 39) (L 44) (L 49) (L 54) g wq := hS
              have hc1 := (World.cell?_of_block ((tst_below HBD.out h0).block b hb0)).trans HE.out
              have HS := Lib.hid hS
              clear hS hup hdn hold hv hLi
              refine Rgn.op_of rfl rfl ?_
              go_simp
              exact hK _ _ (fun _ _ _ => rfl) HS.out
            · have q44 : a.tmps[44]?.getD undef = .pointer (some ⟨g1, 0, none⟩) := hv 0 44 (by kernel_rfl) (by kernel_rfl)
              have q45 : a.tmps[45]?.getD undef = .int .i64 t := hv 1 45 (by kernel_rfl) (by kernel_rfl)
              have q50 : a.tmps[50]?.getD undef = .int .u64 v := hv 6 50 (by kernel_rfl) (by kernel_rfl)
              have z7 : L 7 = false := hLi
              have z15 : L 15 = false := hdn 15 rfl (by kernel_rfl)
              have h0 : Tst wc.drew w q g1 g2 L2 ad vs ix ad2 vs2 ix2 (L 7) (L 15) (L 29) (L 34) (L 39) (L 44) (L 49) (L 54) g wq := hS
              rw [z7] at h0
              obtain rfl : wq = wc.drew := h0
              have HS := Lib.hid hS
              clear hS hup hdn hold hv hLi
              refine Rgn.op_of rfl rfl ?_
              go_simp
              go_at_call 12
              (with_reducible refine (hcp1).mono ?_)
              rintro e w5 ⟨rfl, L1b, hS1, hg1, hF1, hob1⟩
              have h2 := apart_left HTD.out.r HTD.out.ap hF1 hob1
              refine hK g _ (fun _ _ _ => rfl) ?_
              show Tst wc.drew w q g1 g2 L2 ad vs ix ad2 vs2 ix2 (Rgn.mark L 7 7) (Rgn.mark L 7 15) (Rgn.mark L 7 29) (Rgn.mark L 7 34) (Rgn.mark L 7 39) (Rgn.mark L 7 44) (Rgn.mark L 7 49) (Rgn.mark L 7 54) _ _
              rw [Rgn.mark_self, Rgn.mark_ne (show 15 ≠ 7 by decide), Rgn.mark_ne (show 29 ≠ 7 by decide), Rgn.mark_ne (show 34 ≠ 7 by decide), Rgn.mark_ne (show 39 ≠ 7 by decide), Rgn.mark_ne (show 44 ≠ 7 by decide), Rgn.mark_ne (show 49 ≠ 7 by decide), Rgn.mark_ne (show 54 ≠ 7 by decide), z15]
              exact ⟨L1b, hS1, hg1.trans HTD.out.e1, h2.1, HTD.out.e2, h2.2, HTD.out.be.trans (HTD.out.p.step HTD.out.be.size hF1)⟩
            · have q8 : a.tmps[8]?.getD undef = .pointer (some ⟨g2, 0, none⟩) := (hold 8 (by kernel_rfl)).trans (by kernel_rfl)
              have HS := Lib.hid hS
              clear hS hup hdn hold hv hLi
              refine Rgn.op_of rfl rfl ?_
              go_simp
              exact hK _ _ (fun _ _ _ => rfl) HS.out
            · have q10 : a.tmps[10]?.getD undef = .int .i64 t := (hold 10 (by kernel_rfl)).trans (by kernel_rfl)
              have HS := Lib.hid hS
              clear hS hup hdn hold hv hLi
              refine Rgn.op_of rfl rfl ?_
              go_simp
              exact hK _ _ (fun _ _ _ => rfl) HS.out
            · have q1 : a.tmps[1]?.getD undef = .slice (some ⟨b, off, none⟩) n1 c1 := (hold 1 (by kernel_rfl)).trans (by kernel_rfl)
              have HS := Lib.hid hS
              clear hS hup hdn hold hv hLi
              refine Rgn.op_of rfl rfl ?_
              go_simp
              exact hK _ _ (fun _ _ _ => rfl) HS.out
            · have q9 : a.tmps[9]?.getD undef = .int .i64 k := (hold 9 (by kernel_rfl)).trans (by kernel_rfl)
              have HS := Lib.hid hS
              clear hS hup hdn hold hv hLi
              refine Rgn.op_of rfl rfl ?_
              go_simp
              exact hK _ _ (fun _ _ _ => rfl) HS.out
            · have q54 : a.tmps[54]?.getD undef = .slice (some ⟨b, off, none⟩) n1 c1 := hv 10 54 (by kernel_rfl) (by kernel_rfl)
              have q55 : a.tmps[55]?.getD undef = .int .i64 k := hv 11 55 (by kernel_rfl) (by kernel_rfl)
              have HS := Lib.hid hS
              clear hS hup hdn hold hv hLi
              refine Rgn.op_of rfl rfl ?_
              go_simp
              exact hK _ _ (fun _ _ _ => rfl) HS.out
            · have q56 : a.tmps[56]?.getD undef = .pointer (some ⟨b, off + k * 2, none⟩) := hv 12 56 (by kernel_rfl) (by kernel_rfl)
              have HS := Lib.hid hS
              clear hS hup hdn hold hv hLi
              refine Rgn.op_of rfl rfl ?_
              go_simp
              exact hK _ _ (fun _ _ _ => rfl) HS.out
            · have q57 : a.tmps[57]?.getD undef = .pointer (some ⟨b, off + k * 2 + 1, none⟩) := hv 13 57 (by kernel_rfl) (by kernel_rfl)
              have h0 : Tst wc.drew w q g1 g2 L2 ad vs ix ad2 vs2 ix2 (L 7) (L 15) (L 29) (L 34) (L 39) (L 44) (L 49) (L 54) g wq := hS
              have hc1 := (World.cell?_of_block ((tst_below HBD.out h0).block b hb0)).trans HE.out
              have HS := Lib.hid hS
              clear hS hup hdn hold hv hLi
              refine Rgn.op_of rfl rfl ?_
              go_simp
              exact hK _ _ (fun _ _ _ => rfl) HS.out
            · have q52 : a.tmps[52]?.getD undef = .pointer (some ⟨g2, 0, none⟩) := hv 8 52 (by kernel_rfl) (by kernel_rfl)
              have q53 : a.tmps[53]?.getD undef = .int .i64 t := hv 9 53 (by kernel_rfl) (by kernel_rfl)
              have q58 : a.tmps[58]?.getD undef = .int .u64 v := hv 14 58 (by kernel_rfl) (by kernel_rfl)
              have z7 : L 7 = true := hup 7 (by kernel_rfl)
              have z15 : L 15 = false := hLi
              have z29 : L 29 = false := hdn 29 rfl (by kernel_rfl)
              have z34 : L 34 = false := hdn 34 rfl (by kernel_rfl)
              have z39 : L 39 = false := hdn 39 rfl (by kernel_rfl)
              have z44 : L 44 = false := hdn 44 rfl (by kernel_rfl)
              have z49 : L 49 = false := hdn 49 rfl (by kernel_rfl)
              have z54 : L 54 = false := hdn 54 rfl (by kernel_rfl)
              have h0 : Tst wc.drew w q g1 g2 L2 ad vs ix ad2 vs2 ix2 (L 7) (L 15) (L 29) (L 34) (L 39) (L 44) (L 49) (L 54) g wq := hS
              rw [z7, z15] at h0
              obtain ⟨L1b, hS1, hg1, hR1, hg2, hA1, hB1⟩ := h0
              have hc := r_put_to hR1 hB1.size t v rr ad2 vs2 ix2 HR.out HA.out HV.out HX.out
              rw [hg2] at hc
              have hag : ∀ (g' : Gh), ∀ j, j < 57 → L j = true → ((fun g : Gh => ([.pointer (some ⟨g1, 0, none⟩), .int .i64 t, .slice (some ⟨b, off, none⟩) n1 c1, .int .i64 k, .pointer (some ⟨b, off + k * 2, none⟩), .pointer (some ⟨b, off + k * 2 + 1, none⟩), .int .u64 v, .bool rr, .pointer (some ⟨g2, 0, none⟩), .int .i64 t, .slice (some ⟨b, off, none⟩) n1 c1, .int .i64 k, .pointer (some ⟨b, off + k * 2, none⟩), .pointer (some ⟨b, off + k * 2 + 1, none⟩), .int .u64 v, .bool rr, .bool false, .bool false, .pointer (some ⟨g1, 0, none⟩), .int .i64 n, .pointer (some ⟨g2, 0, none⟩), .pointer (some ⟨g2, 0, none⟩), .pointer (some ⟨g2, 1, none⟩), .slice g.a n g.ca, .int .i64 n, .bool false, .bool false, .bool false, .pointer (some ⟨g1, 0, none⟩), .slice (some ⟨g.y1, 0, none⟩) n n, .pointer (some ⟨g2, 0, none⟩), .pointer (some ⟨g2, 0, none⟩), .pointer (some ⟨g2, 1, none⟩), .slice g.a n g.ca, .bool true, .bool false, .bool false, .bool false, .pointer (some ⟨g1, 0, none⟩), .slice (some ⟨g.y2, 0, none⟩) n n, .pointer (some ⟨g2, 0, none⟩), .pointer (some ⟨g2, 0, none⟩), .pointer (some ⟨g2, 2, none⟩), .slice g.v n g.cv, .bool true, .bool false, .bool false, .bool false, .pointer (some ⟨g1, 0, none⟩), .slice (some ⟨g.y3, 0, none⟩) s s, .pointer (some ⟨g2, 0, none⟩), .pointer (some ⟨g2, 0, none⟩), .pointer (some ⟨g2, 3, none⟩), .slice g.i s g.ci, .bool true, .bool false, .bool false] : List Value)) g').getD j undef = ((fun g : Gh => ([.pointer (some ⟨g1, 0, none⟩), .int .i64 t, .slice (some ⟨b, off, none⟩) n1 c1, .int .i64 k, .pointer (some ⟨b, off + k * 2, none⟩), .pointer (some ⟨b, off + k * 2 + 1, none⟩), .int .u64 v, .bool rr, .pointer (some ⟨g2, 0, none⟩), .int .i64 t, .slice (some ⟨b, off, none⟩) n1 c1, .int .i64 k, .pointer (some ⟨b, off + k * 2, none⟩), .pointer (some ⟨b, off + k * 2 + 1, none⟩), .int .u64 v, .bool rr, .bool false, .bool false, .pointer (some ⟨g1, 0, none⟩), .int .i64 n, .pointer (some ⟨g2, 0, none⟩), .pointer (some ⟨g2, 0, none⟩), .pointer (some ⟨g2, 1, none⟩), .slice g.a n g.ca, .int .i64 n, .bool false, .bool false, .bool false, .pointer (some ⟨g1, 0, none⟩), .slice (some ⟨g.y1, 0, none⟩) n n, .pointer (some ⟨g2, 0, none⟩), .pointer (some ⟨g2, 0, none⟩), .pointer (some ⟨g2, 1, none⟩), .slice g.a n g.ca, .bool true, .bool false, .bool false, .bool false, .pointer (some ⟨g1, 0, none⟩), .slice (some ⟨g.y2, 0, none⟩) n n, .pointer (some ⟨g2, 0, none⟩), .pointer (some ⟨g2, 0, none⟩), .pointer (some ⟨g2, 2, none⟩), .slice g.v n g.cv, .bool true, .bool false, .bool false, .bool false, .pointer (some ⟨g1, 0, none⟩), .slice (some ⟨g.y3, 0, none⟩) s s, .pointer (some ⟨g2, 0, none⟩), .pointer (some ⟨g2, 0, none⟩), .pointer (some ⟨g2, 3, none⟩), .slice g.i s g.ci, .bool true, .bool false, .bool false] : List Value)) g).getD j undef := by
                intro q' j hj hLj
                have hj' : j = 0 ∨ j = 1 ∨ j = 2 ∨ j = 3 ∨ j = 4 ∨ j = 5 ∨ j = 6 ∨ j = 7 ∨ j = 8 ∨ j = 9 ∨ j = 10 ∨ j = 11 ∨ j = 12 ∨ j = 13 ∨ j = 14 ∨ j = 15 ∨ j = 16 ∨ j = 17 ∨ j = 18 ∨ j = 19 ∨ j = 20 ∨ j = 21 ∨ j = 22 ∨ j = 23 ∨ j = 24 ∨ j = 25 ∨ j = 26 ∨ j = 27 ∨ j = 28 ∨ j = 29 ∨ j = 30 ∨ j = 31 ∨ j = 32 ∨ j = 33 ∨ j = 34 ∨ j = 35 ∨ j = 36 ∨ j = 37 ∨ j = 38 ∨ j = 39 ∨ j = 40 ∨ j = 41 ∨ j = 42 ∨ j = 43 ∨ j = 44 ∨ j = 45 ∨ j = 46 ∨ j = 47 ∨ j = 48 ∨ j = 49 ∨ j = 50 ∨ j = 51 ∨ j = 52 ∨ j = 53 ∨ j = 54 ∨ j = 55 ∨ j = 56 := by omega
                rcases hj' with rfl | rfl | rfl | rfl | rfl | rfl | rfl | rfl | rfl | rfl | rfl | rfl | rfl | rfl | rfl | rfl | rfl | rfl | rfl | rfl | rfl | rfl | rfl | rfl | rfl | rfl | rfl | rfl | rfl | rfl | rfl | rfl | rfl | rfl | rfl | rfl | rfl | rfl | rfl | rfl | rfl | rfl | rfl | rfl | rfl | rfl | rfl | rfl | rfl | rfl | rfl | rfl | rfl | rfl | rfl | rfl | rfl
                all_goals first | rfl | (rw [hLi] at hLj; cases hLj) | (rw [hdn _ rfl (by kernel_rfl)] at hLj; cases hLj)
              have HS := Lib.hid hS
              clear hS hup hdn hold hv hLi
              refine Rgn.op_of rfl rfl ?_
              go_simp
              go_at_call 13
              (with_reducible refine (hc).mono ?_)
              rintro e w5 ⟨rfl, L2b, hR2, hg3, hF2, hob2⟩
              have h3 := apart_left hS1 hA1.symm hF2 hob2
              have hB2 := hB1.trans (hR1.step hB1.size hF2)
              obtain ⟨aA, aC, ea⟩ := rdi_slice (rdi_own hR2.ra)
              obtain ⟨vA, vC, ev⟩ := rdw_slice (rdw_own hR2.rv)
              obtain ⟨iA, iC, ei⟩ := rdi_slice (rdi_own hR2.ri)
              refine hK ⟨aA, aC, vA, vC, iA, iC, 0, 0, 0⟩ _ (hag _) ?_
              show Tst wc.drew w q g1 g2 L2 ad vs ix ad2 vs2 ix2 (Rgn.mark L 15 7) (Rgn.mark L 15 15) (Rgn.mark L 15 29) (Rgn.mark L 15 34) (Rgn.mark L 15 39) (Rgn.mark L 15 44) (Rgn.mark L 15 49) (Rgn.mark L 15 54) _ _
              rw [Rgn.mark_self, Rgn.mark_ne (show 7 ≠ 15 by decide), Rgn.mark_ne (show 29 ≠ 15 by decide), Rgn.mark_ne (show 34 ≠ 15 by decide), Rgn.mark_ne (show 39 ≠ 15 by decide), Rgn.mark_ne (show 44 ≠ 15 by decide), Rgn.mark_ne (show 49 ≠ 15 by decide), Rgn.mark_ne (show 54 ≠ 15 by decide), z7, z29, z34, z39, z44, z49, z54]
              refine ⟨⟨L1b, ⟨h3.1, ?_, hg1, rfl, ?_, hB2⟩⟩, fun h => (by cases h), fun h => (by cases h), fun h => (by cases h)⟩
              · rw [← hR2.ok.lv, ← ev, ← ei, hR2.ok.lv, ← ea]
                obtain ⟨gg, vva, vvv, vvi⟩ := L2b
                obtain rfl : gg = g2 := hg3.trans hg2
                exact hR2
              · rw [← hR2.ok.lv, ← ev, ← ei, hR2.ok.lv, ← ea]
                obtain ⟨gg, vva, vvv, vvi⟩ := L2b
                obtain rfl : gg = g2 := hg3.trans hg2
                exact h3.2.symm
            · have q51 : a.tmps[51]?.getD undef = .bool rr := hv 7 51 (by kernel_rfl) (by kernel_rfl)
              have q59 : a.tmps[59]?.getD undef = .bool rr := hv 15 59 (by kernel_rfl) (by kernel_rfl)
              have HS := Lib.hid hS
              clear hS hup hdn hold hv hLi
              refine Rgn.op_of rfl rfl ?_
              go_simp
              exact hK _ _ (fun _ _ _ => rfl) HS.out
            · have q60 : a.tmps[60]?.getD undef = .bool false := hv 16 60 (by kernel_rfl) (by kernel_rfl)
              have HS := Lib.hid hS
              clear hS hup hdn hold hv hLi
              refine Rgn.op_of rfl rfl ?_
              go_simp
              exact hK _ _ (fun _ _ _ => rfl) HS.out
            · have q7 : a.tmps[7]?.getD undef = .pointer (some ⟨g1, 0, none⟩) := (hold 7 (by kernel_rfl)).trans (by kernel_rfl)
              have hgd : a.tmps[61]?.getD undef = .bool false := hv 17 61 (by kernel_rfl) (by kernel_rfl)
              have HS := Lib.hid hS
              clear hS hup hdn hold hv hLi
              refine Rgn.op_of_guard (j := 17) (d := 61) (b := false) rfl rfl (by kernel_rfl) hgd ?_
              clear hgd
              go_simp
              exact hK _ _ (fun _ _ _ => rfl) HS.out
            · have q62 : a.tmps[62]?.getD undef = .pointer (some ⟨g1, 0, none⟩) := hv 18 62 (by kernel_rfl) (by kernel_rfl)
              have hgd : a.tmps[61]?.getD undef = .bool false := hv 17 61 (by kernel_rfl) (by kernel_rfl)
              have z7 : L 7 = true := hup 7 (by kernel_rfl)
              have z15 : L 15 = true := hup 15 (by kernel_rfl)
              have z29 : L 29 = false := hdn 29 rfl (by kernel_rfl)
              have h0 : Tst wc.drew w q g1 g2 L2 ad vs ix ad2 vs2 ix2 (L 7) (L 15) (L 29) (L 34) (L 39) (L 44) (L 49) (L 54) g wq := hS
              rw [z7, z15] at h0
              obtain ⟨⟨L1b, hT1⟩, _⟩ := h0
              have hc := a_len _ _ _ _ _ _ _ hT1.p.toLogR
              rw [hT1.e1, HN.out] at hc
              have HS := Lib.hid hS
              clear hS hup hdn hold hv hLi
              refine Rgn.op_of_guard (j := 17) (d := 61) (b := false) rfl rfl (by kernel_rfl) hgd ?_
              clear hgd
              go_simp
              go_at_call 14
              (with_reducible refine (hc).mono ?_)
              rintro e w5 ⟨rfl, rfl⟩
              exact hK _ _ (fun _ _ _ => rfl) HS.out
            · have q8 : a.tmps[8]?.getD undef = .pointer (some ⟨g2, 0, none⟩) := (hold 8 (by kernel_rfl)).trans (by kernel_rfl)
              have hgd : a.tmps[61]?.getD undef = .bool false := hv 17 61 (by kernel_rfl) (by kernel_rfl)
              have HS := Lib.hid hS
              clear hS hup hdn hold hv hLi
              refine Rgn.op_of_guard (j := 17) (d := 61) (b := false) rfl rfl (by kernel_rfl) hgd ?_
              clear hgd
              go_simp
              exact hK _ _ (fun _ _ _ => rfl) HS.out
            · have q64 : a.tmps[64]?.getD undef = .pointer (some ⟨g2, 0, none⟩) := hv 20 64 (by kernel_rfl) (by kernel_rfl)
              have hgd : a.tmps[61]?.getD undef = .bool false := hv 17 61 (by kernel_rfl) (by kernel_rfl)
              have HS := Lib.hid hS
              clear hS hup hdn hold hv hLi
              refine Rgn.op_of_guard (j := 17) (d := 61) (b := false) rfl rfl (by kernel_rfl) hgd ?_
              clear hgd
              go_simp
              exact hK _ _ (fun _ _ _ => rfl) HS.out
            · have q65 : a.tmps[65]?.getD undef = .pointer (some ⟨g2, 0, none⟩) := hv 21 65 (by kernel_rfl) (by kernel_rfl)
              have hgd : a.tmps[61]?.getD undef = .bool false := hv 17 61 (by kernel_rfl) (by kernel_rfl)
              have HS := Lib.hid hS
              clear hS hup hdn hold hv hLi
              refine Rgn.op_of_guard (j := 17) (d := 61) (b := false) rfl rfl (by kernel_rfl) hgd ?_
              clear hgd
              go_simp
              exact hK _ _ (fun _ _ _ => rfl) HS.out
            · have q66 : a.tmps[66]?.getD undef = .pointer (some ⟨g2, 1, none⟩) := hv 22 66 (by kernel_rfl) (by kernel_rfl)
              have hgd : a.tmps[61]?.getD undef = .bool false := hv 17 61 (by kernel_rfl) (by kernel_rfl)
              have z7 : L 7 = true := hup 7 (by kernel_rfl)
              have z15 : L 15 = true := hup 15 (by kernel_rfl)
              have h0 : Tst wc.drew w q g1 g2 L2 ad vs ix ad2 vs2 ix2 (L 7) (L 15) (L 29) (L 34) (L 39) (L 44) (L 49) (L 54) g wq := hS
              rw [z7, z15] at h0
              have hc1 := tst_cella h0
              simp only [HN.out, HM.out] at hc1
              have HS := Lib.hid hS
              clear hS hup hdn hold hv hLi
              refine Rgn.op_of_guard (j := 17) (d := 61) (b := false) rfl rfl (by kernel_rfl) hgd ?_
              clear hgd
              go_simp
              exact hK _ _ (fun _ _ _ => rfl) HS.out
            · have q67 : a.tmps[67]?.getD undef = .slice g.a n g.ca := hv 23 67 (by kernel_rfl) (by kernel_rfl)
              have hgd : a.tmps[61]?.getD undef = .bool false := hv 17 61 (by kernel_rfl) (by kernel_rfl)
              have HS := Lib.hid hS
              clear hS hup hdn hold hv hLi
              refine Rgn.op_of_guard (j := 17) (d := 61) (b := false) rfl rfl (by kernel_rfl) hgd ?_
              clear hgd
              go_simp
              exact hK _ _ (fun _ _ _ => rfl) HS.out
            · have q63 : a.tmps[63]?.getD undef = .int .i64 n := hv 19 63 (by kernel_rfl) (by kernel_rfl)
              have q68 : a.tmps[68]?.getD undef = .int .i64 n := hv 24 68 (by kernel_rfl) (by kernel_rfl)
              have hgd : a.tmps[61]?.getD undef = .bool false := hv 17 61 (by kernel_rfl) (by kernel_rfl)
              have HS := Lib.hid hS
              clear hS hup hdn hold hv hLi
              refine Rgn.op_of_guard (j := 17) (d := 61) (b := false) rfl rfl (by kernel_rfl) hgd ?_
              clear hgd
              go_simp
              exact hK _ _ (fun _ _ _ => rfl) HS.out
            · have q61 : a.tmps[61]?.getD undef = .bool false := hv 17 61 (by kernel_rfl) (by kernel_rfl)
              have q69 : a.tmps[69]?.getD undef = .bool false := hv 25 69 (by kernel_rfl) (by kernel_rfl)
              have HS := Lib.hid hS
              clear hS hup hdn hold hv hLi
              refine Rgn.op_of rfl rfl ?_
              go_simp
              exact hK _ _ (fun _ _ _ => rfl) HS.out
            · have q70 : a.tmps[70]?.getD undef = .bool false := hv 26 70 (by kernel_rfl) (by kernel_rfl)
              have HS := Lib.hid hS
              clear hS hup hdn hold hv hLi
              refine Rgn.op_of rfl rfl ?_
              go_simp
              exact hK _ _ (fun _ _ _ => rfl) HS.out
            · have q7 : a.tmps[7]?.getD undef = .pointer (some ⟨g1, 0, none⟩) := (hold 7 (by kernel_rfl)).trans (by kernel_rfl)
              have hgd : a.tmps[71]?.getD undef = .bool false := hv 27 71 (by kernel_rfl) (by kernel_rfl)
              have HS := Lib.hid hS
              clear hS hup hdn hold hv hLi
              refine Rgn.op_of_guard (j := 27) (d := 71) (b := false) rfl rfl (by kernel_rfl) hgd ?_
              clear hgd
              go_simp
              exact hK _ _ (fun _ _ _ => rfl) HS.out
            · have q72 : a.tmps[72]?.getD undef = .pointer (some ⟨g1, 0, none⟩) := hv 28 72 (by kernel_rfl) (by kernel_rfl)
              have hgd : a.tmps[71]?.getD undef = .bool false := hv 27 71 (by kernel_rfl) (by kernel_rfl)
              have z7 : L 7 = true := hup 7 (by kernel_rfl)
              have z15 : L 15 = true := hup 15 (by kernel_rfl)
              have z29 : L 29 = false := hLi
              have z34 : L 34 = false := hdn 34 rfl (by kernel_rfl)
              have z39 : L 39 = false := hdn 39 rfl (by kernel_rfl)
              have z44 : L 44 = false := hdn 44 rfl (by kernel_rfl)
              have z49 : L 49 = false := hdn 49 rfl (by kernel_rfl)
              have z54 : L 54 = false := hdn 54 rfl (by kernel_rfl)
              have h0 : Tst wc.drew w q g1 g2 L2 ad vs ix ad2 vs2 ix2 (L 7) (L 15) (L 29) (L 34) (L 39) (L 44) (L 49) (L 54) g wq := hS
              rw [z7, z15, z29] at h0
              obtain ⟨⟨L1b, hT1⟩, _⟩ := h0
              have hc := a_addrs _ _ _ _ _ _ _ hT1.p
              rw [hT1.e1] at hc
              have hag : ∀ (yy : Nat), ∀ j, j < 57 → L j = true → ((fun g : Gh => ([.pointer (some ⟨g1, 0, none⟩), .int .i64 t, .slice (some ⟨b, off, none⟩) n1 c1, .int .i64 k, .pointer (some ⟨b, off + k * 2, none⟩), .pointer (some ⟨b, off + k * 2 + 1, none⟩), .int .u64 v, .bool rr, .pointer (some ⟨g2, 0, none⟩), .int .i64 t, .slice (some ⟨b, off, none⟩) n1 c1, .int .i64 k, .pointer (some ⟨b, off + k * 2, none⟩), .pointer (some ⟨b, off + k * 2 + 1, none⟩), .int .u64 v, .bool rr, .bool false, .bool false, .pointer (some ⟨g1, 0, none⟩), .int .i64 n, .pointer (some ⟨g2, 0, none⟩), .pointer (some ⟨g2, 0, none⟩), .pointer (some ⟨g2, 1, none⟩), .slice g.a n g.ca, .int .i64 n, .bool false, .bool false, .bool false, .pointer (some ⟨g1, 0, none⟩), .slice (some ⟨g.y1, 0, none⟩) n n, .pointer (some ⟨g2, 0, none⟩), .pointer (some ⟨g2, 0, none⟩), .pointer (some ⟨g2, 1, none⟩), .slice g.a n g.ca, .bool true, .bool false, .bool false, .bool false, .pointer (some ⟨g1, 0, none⟩), .slice (some ⟨g.y2, 0, none⟩) n n, .pointer (some ⟨g2, 0, none⟩), .pointer (some ⟨g2, 0, none⟩), .pointer (some ⟨g2, 2, none⟩), .slice g.v n g.cv, .bool true, .bool false, .bool false, .bool false, .pointer (some ⟨g1, 0, none⟩), .slice (some ⟨g.y3, 0, none⟩) s s, .pointer (some ⟨g2, 0, none⟩), .pointer (some ⟨g2, 0, none⟩), .pointer (some ⟨g2, 3, none⟩), .slice g.i s g.ci, .bool true, .bool false, .bool false] : List Value)) { g with y1 := yy }).getD j undef = ((fun g : Gh => ([.pointer (some ⟨g1, 0, none⟩), .int .i64 t, .slice (some ⟨b, off, none⟩) n1 c1, .int .i64 k, .pointer (some ⟨b, off + k * 2, none⟩), .pointer (some ⟨b, off + k * 2 + 1, none⟩), .int .u64 v, .bool rr, .pointer (some ⟨g2, 0, none⟩), .int .i64 t, .slice (some ⟨b, off, none⟩) n1 c1, .int .i64 k, .pointer (some ⟨b, off + k * 2, none⟩), .pointer (some ⟨b, off + k * 2 + 1, none⟩), .int .u64 v, .bool rr, .bool false, .bool false, .pointer (some ⟨g1, 0, none⟩), .int .i64 n, .pointer (some ⟨g2, 0, none⟩), .pointer (some ⟨g2, 0, none⟩), .pointer (some ⟨g2, 1, none⟩), .slice g.a n g.ca, .int .i64 n, .bool false, .bool false, .bool false, .pointer (some ⟨g1, 0, none⟩), .slice (some ⟨g.y1, 0, none⟩) n n, .pointer (some ⟨g2, 0, none⟩), .pointer (some ⟨g2, 0, none⟩), .pointer (some ⟨g2, 1, none⟩), .slice g.a n g.ca, .bool true, .bool false, .bool false, .bool false, .pointer (some ⟨g1, 0, none⟩), .slice (some ⟨g.y2, 0, none⟩) n n, .pointer (some ⟨g2, 0, none⟩), .pointer (some ⟨g2, 0, none⟩), .pointer (some ⟨g2, 2, none⟩), .slice g.v n g.cv, .bool true, .bool false, .bool false, .bool false, .pointer (some ⟨g1, 0, none⟩), .slice (some ⟨g.y3, 0, none⟩) s s, .pointer (some ⟨g2, 0, none⟩), .pointer (some ⟨g2, 0, none⟩), .pointer (some ⟨g2, 3, none⟩), .slice g.i s g.ci, .bool true, .bool false, .bool false] : List Value)) g).getD j undef := by
                intro q' j hj hLj
                have hj' : j = 0 ∨ j = 1 ∨ j = 2 ∨ j = 3 ∨ j = 4 ∨ j = 5 ∨ j = 6 ∨ j = 7 ∨ j = 8 ∨ j = 9 ∨ j = 10 ∨ j = 11 ∨ j = 12 ∨ j = 13 ∨ j = 14 ∨ j = 15 ∨ j = 16 ∨ j = 17 ∨ j = 18 ∨ j = 19 ∨ j = 20 ∨ j = 21 ∨ j = 22 ∨ j = 23 ∨ j = 24 ∨ j = 25 ∨ j = 26 ∨ j = 27 ∨ j = 28 ∨ j = 29 ∨ j = 30 ∨ j = 31 ∨ j = 32 ∨ j = 33 ∨ j = 34 ∨ j = 35 ∨ j = 36 ∨ j = 37 ∨ j = 38 ∨ j = 39 ∨ j = 40 ∨ j = 41 ∨ j = 42 ∨ j = 43 ∨ j = 44 ∨ j = 45 ∨ j = 46 ∨ j = 47 ∨ j = 48 ∨ j = 49 ∨ j = 50 ∨ j = 51 ∨ j = 52 ∨ j = 53 ∨ j = 54 ∨ j = 55 ∨ j = 56 := by omega
                rcases hj' with rfl | rfl | rfl | rfl | rfl | rfl | rfl | rfl | rfl | rfl | rfl | rfl | rfl | rfl | rfl | rfl | rfl | rfl | rfl | rfl | rfl | rfl | rfl | rfl | rfl | rfl | rfl | rfl | rfl | rfl | rfl | rfl | rfl | rfl | rfl | rfl | rfl | rfl | rfl | rfl | rfl | rfl | rfl | rfl | rfl | rfl | rfl | rfl | rfl | rfl | rfl | rfl | rfl | rfl | rfl | rfl | rfl
                all_goals first | rfl | (rw [hLi] at hLj; cases hLj) | (rw [hdn _ rfl (by kernel_rfl)] at hLj; cases hLj)
              have HS := Lib.hid hS
              clear hS hup hdn hold hv hLi
              refine Rgn.op_of_guard (j := 27) (d := 71) (b := false) rfl rfl (by kernel_rfl) hgd ?_
              clear hgd
              go_simp
              go_at_call 16
              (with_reducible refine (hc).mono ?_)
              rintro e w5 ⟨y, rfl, hy, hM, hBl⟩
              simp only [HN.out, HNV.out, HM.out]
              refine hK { g with y1 := y } _ (hag _) ?_
              show Tst wc.drew w q g1 g2 L2 ad vs ix ad2 vs2 ix2 (Rgn.mark L 29 7) (Rgn.mark L 29 15) (Rgn.mark L 29 29) (Rgn.mark L 29 34) (Rgn.mark L 29 39) (Rgn.mark L 29 44) (Rgn.mark L 29 49) (Rgn.mark L 29 54) _ _
              rw [Rgn.mark_self, Rgn.mark_ne (show 7 ≠ 29 by decide), Rgn.mark_ne (show 15 ≠ 29 by decide), Rgn.mark_ne (show 34 ≠ 29 by decide), Rgn.mark_ne (show 39 ≠ 29 by decide), Rgn.mark_ne (show 44 ≠ 29 by decide), Rgn.mark_ne (show 49 ≠ 29 by decide), Rgn.mark_ne (show 54 ≠ 29 by decide), z7, z15, z34, z39, z44, z49, z54]
              refine ⟨⟨L1b, hT1.below hBl⟩, fun _ _ => hM, fun h => (by cases h), fun h => (by cases h)⟩
            · have q8 : a.tmps[8]?.getD undef = .pointer (some ⟨g2, 0, none⟩) := (hold 8 (by kernel_rfl)).trans (by kernel_rfl)
              have hgd : a.tmps[71]?.getD undef = .bool false := hv 27 71 (by kernel_rfl) (by kernel_rfl)
              have HS := Lib.hid hS
              clear hS hup hdn hold hv hLi
              refine Rgn.op_of_guard (j := 27) (d := 71) (b := false) rfl rfl (by kernel_rfl) hgd ?_
              clear hgd
              go_simp
              exact hK _ _ (fun _ _ _ => rfl) HS.out
            · have q74 : a.tmps[74]?.getD undef = .pointer (some ⟨g2, 0, none⟩) := hv 30 74 (by kernel_rfl) (by kernel_rfl)
              have hgd : a.tmps[71]?.getD undef = .bool false := hv 27 71 (by kernel_rfl) (by kernel_rfl)
              have HS := Lib.hid hS
              clear hS hup hdn hold hv hLi
              refine Rgn.op_of_guard (j := 27) (d := 71) (b := false) rfl rfl (by kernel_rfl) hgd ?_
              clear hgd
              go_simp
              exact hK _ _ (fun _ _ _ => rfl) HS.out
            · have q75 : a.tmps[75]?.getD undef = .pointer (some ⟨g2, 0, none⟩) := hv 31 75 (by kernel_rfl) (by kernel_rfl)
              have hgd : a.tmps[71]?.getD undef = .bool false := hv 27 71 (by kernel_rfl) (by kernel_rfl)
              have HS := Lib.hid hS
              clear hS hup hdn hold hv hLi
              refine Rgn.op_of_guard (j := 27) (d := 71) (b := false) rfl rfl (by kernel_rfl) hgd ?_
              clear hgd
              go_simp
              exact hK _ _ (fun _ _ _ => rfl) HS.out
            · have q76 : a.tmps[76]?.getD undef = .pointer (some ⟨g2, 1, none⟩) := hv 32 76 (by kernel_rfl) (by kernel_rfl)
              have hgd : a.tmps[71]?.getD undef = .bool false := hv 27 71 (by kernel_rfl) (by kernel_rfl)
              have z7 : L 7 = true := hup 7 (by kernel_rfl)
              have z15 : L 15 = true := hup 15 (by kernel_rfl)
              have h0 : Tst wc.drew w q g1 g2 L2 ad vs ix ad2 vs2 ix2 (L 7) (L 15) (L 29) (L 34) (L 39) (L 44) (L 49) (L 54) g wq := hS
              rw [z7, z15] at h0
              have hc1 := tst_cella h0
              simp only [HN.out, HM.out] at hc1
              have HS := Lib.hid hS
              clear hS hup hdn hold hv hLi
              refine Rgn.op_of_guard (j := 27) (d := 71) (b := false) rfl rfl (by kernel_rfl) hgd ?_
              clear hgd
              go_simp
              exact hK _ _ (fun _ _ _ => rfl) HS.out
            · have q73 : a.tmps[73]?.getD undef = .slice (some ⟨g.y1, 0, none⟩) n n := hv 29 73 (by kernel_rfl) (by kernel_rfl)
              have q77 : a.tmps[77]?.getD undef = .slice g.a n g.ca := hv 33 77 (by kernel_rfl) (by kernel_rfl)
              have hgd : a.tmps[71]?.getD undef = .bool false := hv 27 71 (by kernel_rfl) (by kernel_rfl)
              have z7 : L 7 = true := hup 7 (by kernel_rfl)
              have z15 : L 15 = true := hup 15 (by kernel_rfl)
              have z29 : L 29 = true := hup 29 (by kernel_rfl)
              have z34 : L 34 = false := hLi
              have z39 : L 39 = false := hdn 39 rfl (by kernel_rfl)
              have z44 : L 44 = false := hdn 44 rfl (by kernel_rfl)
              have z49 : L 49 = false := hdn 49 rfl (by kernel_rfl)
              have z54 : L 54 = false := hdn 54 rfl (by kernel_rfl)
              have h0 : Tst wc.drew w q g1 g2 L2 ad vs ix ad2 vs2 ix2 (L 7) (L 15) (L 29) (L 34) (L 39) (L 44) (L 49) (L 54) g wq := hS
              rw [z7, z15, z29, z34] at h0
              obtain ⟨⟨L1b, hT1⟩, hm0, hm1, hm2⟩ := h0
              have hc := k_ints _ _ _ ad2 (rdi_mem (hm0 rfl rfl)) (rdi_own hT1.r.ra) (by have := hT1.r.ok.few; have := hT1.r.c32; omega)
              simp only [HN.out, HNV.out, HM.out] at hc
              have HS := Lib.hid hS
              clear hS hup hdn hold hv hLi
              refine Rgn.op_of_guard (j := 27) (d := 71) (b := false) rfl rfl (by kernel_rfl) hgd ?_
              clear hgd
              go_simp
              go_at_call 15
              (with_reducible refine (hc).mono ?_)
              rintro e w5 ⟨rfl, nd, rfl⟩
              refine hK g _ (fun _ _ _ => rfl) ?_
              show Tst wc.drew w q g1 g2 L2 ad vs ix ad2 vs2 ix2 (Rgn.mark L 34 7) (Rgn.mark L 34 15) (Rgn.mark L 34 29) (Rgn.mark L 34 34) (Rgn.mark L 34 39) (Rgn.mark L 34 44) (Rgn.mark L 34 49) (Rgn.mark L 34 54) _ _
              rw [Rgn.mark_self, Rgn.mark_ne (show 7 ≠ 34 by decide), Rgn.mark_ne (show 15 ≠ 34 by decide), Rgn.mark_ne (show 29 ≠ 34 by decide), Rgn.mark_ne (show 39 ≠ 34 by decide), Rgn.mark_ne (show 44 ≠ 34 by decide), Rgn.mark_ne (show 49 ≠ 34 by decide), Rgn.mark_ne (show 54 ≠ 34 by decide), z7, z15, z29, z39, z44, z49, z54]
              refine ⟨⟨L1b, hT1.drewN nd⟩, fun _ h => (by cases h), fun h => (by cases h), fun h => (by cases h)⟩
            · have q78 : a.tmps[78]?.getD undef = .bool true := hv 34 78 (by kernel_rfl) (by kernel_rfl)
              have hgd : a.tmps[71]?.getD undef = .bool false := hv 27 71 (by kernel_rfl) (by kernel_rfl)
              have HS := Lib.hid hS
              clear hS hup hdn hold hv hLi
              refine Rgn.op_of_guard (j := 27) (d := 71) (b := false) rfl rfl (by kernel_rfl) hgd ?_
              clear hgd
              go_simp
              exact hK _ _ (fun _ _ _ => rfl) HS.out
            · have q71 : a.tmps[71]?.getD undef = .bool false := hv 27 71 (by kernel_rfl) (by kernel_rfl)
              have q79 : a.tmps[79]?.getD undef = .bool false := hv 35 79 (by kernel_rfl) (by kernel_rfl)
              have HS := Lib.hid hS
              clear hS hup hdn hold hv hLi
              refine Rgn.op_of rfl rfl ?_
              go_simp
              exact hK _ _ (fun _ _ _ => rfl) HS.out
            · have q80 : a.tmps[80]?.getD undef = .bool false := hv 36 80 (by kernel_rfl) (by kernel_rfl)
              have HS := Lib.hid hS
              clear hS hup hdn hold hv hLi
              refine Rgn.op_of rfl rfl ?_
              go_simp
              exact hK _ _ (fun _ _ _ => rfl) HS.out
            · have q7 : a.tmps[7]?.getD undef = .pointer (some ⟨g1, 0, none⟩) := (hold 7 (by kernel_rfl)).trans (by kernel_rfl)
              have hgd : a.tmps[81]?.getD undef = .bool false := hv 37 81 (by kernel_rfl) (by kernel_rfl)
              have HS := Lib.hid hS
              clear hS hup hdn hold hv hLi
              refine Rgn.op_of_guard (j := 37) (d := 81) (b := false) rfl rfl (by kernel_rfl) hgd ?_
              clear hgd
              go_simp
              exact hK _ _ (fun _ _ _ => rfl) HS.out
            · have q82 : a.tmps[82]?.getD undef = .pointer (some ⟨g1, 0, none⟩) := hv 38 82 (by kernel_rfl) (by kernel_rfl)
              have hgd : a.tmps[81]?.getD undef = .bool false := hv 37 81 (by kernel_rfl) (by kernel_rfl)
              have z7 : L 7 = true := hup 7 (by kernel_rfl)
              have z15 : L 15 = true := hup 15 (by kernel_rfl)
              have z29 : L 29 = true := hup 29 (by kernel_rfl)
              have z34 : L 34 = true := hup 34 (by kernel_rfl)
              have z39 : L 39 = false := hLi
              have z44 : L 44 = false := hdn 44 rfl (by kernel_rfl)
              have z49 : L 49 = false := hdn 49 rfl (by kernel_rfl)
              have z54 : L 54 = false := hdn 54 rfl (by kernel_rfl)
              have h0 : Tst wc.drew w q g1 g2 L2 ad vs ix ad2 vs2 ix2 (L 7) (L 15) (L 29) (L 34) (L 39) (L 44) (L 49) (L 54) g wq := hS
              rw [z7, z15, z29, z34, z39] at h0
              obtain ⟨⟨L1b, hT1⟩, _⟩ := h0
              have hc := a_values _ _ _ _ _ _ _ hT1.p
              rw [hT1.e1] at hc
              have hag : ∀ (yy : Nat), ∀ j, j < 57 → L j = true → ((fun g : Gh => ([.pointer (some ⟨g1, 0, none⟩), .int .i64 t, .slice (some ⟨b, off, none⟩) n1 c1, .int .i64 k, .pointer (some ⟨b, off + k * 2, none⟩), .pointer (some ⟨b, off + k * 2 + 1, none⟩), .int .u64 v, .bool rr, .pointer (some ⟨g2, 0, none⟩), .int .i64 t, .slice (some ⟨b, off, none⟩) n1 c1, .int .i64 k, .pointer (some ⟨b, off + k * 2, none⟩), .pointer (some ⟨b, off + k * 2 + 1, none⟩), .int .u64 v, .bool rr, .bool false, .bool false, .pointer (some ⟨g1, 0, none⟩), .int .i64 n, .pointer (some ⟨g2, 0, none⟩), .pointer (some ⟨g2, 0, none⟩), .pointer (some ⟨g2, 1, none⟩), .slice g.a n g.ca, .int .i64 n, .bool false, .bool false, .bool false, .pointer (some ⟨g1, 0, none⟩), .slice (some ⟨g.y1, 0, none⟩) n n, .pointer (some ⟨g2, 0, none⟩), .pointer (some ⟨g2, 0, none⟩), .pointer (some ⟨g2, 1, none⟩), .slice g.a n g.ca, .bool true, .bool false, .bool false, .bool false, .pointer (some ⟨g1, 0, none⟩), .slice (some ⟨g.y2, 0, none⟩) n n, .pointer (some ⟨g2, 0, none⟩), .pointer (some ⟨g2, 0, none⟩), .pointer (some ⟨g2, 2, none⟩), .slice g.v n g.cv, .bool true, .bool false, .bool false, .bool false, .pointer (some ⟨g1, 0, none⟩), .slice (some ⟨g.y3, 0, none⟩) s s, .pointer (some ⟨g2, 0, none⟩), .pointer (some ⟨g2, 0, none⟩), .pointer (some ⟨g2, 3, none⟩), .slice g.i s g.ci, .bool true, .bool false, .bool false] : List Value)) { g with y2 := yy }).getD j undef = ((fun g : Gh => ([.pointer (some ⟨g1, 0, none⟩), .int .i64 t, .slice (some ⟨b, off, none⟩) n1 c1, .int .i64 k, .pointer (some ⟨b, off + k * 2, none⟩), .pointer (some ⟨b, off + k * 2 + 1, none⟩), .int .u64 v, .bool rr, .pointer (some ⟨g2, 0, none⟩), .int .i64 t, .slice (some ⟨b, off, none⟩) n1 c1, .int .i64 k, .pointer (some ⟨b, off + k * 2, none⟩), .pointer (some ⟨b, off + k * 2 + 1, none⟩), .int .u64 v, .bool rr, .bool false, .bool false, .pointer (some ⟨g1, 0, none⟩), .int .i64 n, .pointer (some ⟨g2, 0, none⟩), .pointer (some ⟨g2, 0, none⟩), .pointer (some ⟨g2, 1, none⟩), .slice g.a n g.ca, .int .i64 n, .bool false, .bool false, .bool false, .pointer (some ⟨g1, 0, none⟩), .slice (some ⟨g.y1, 0, none⟩) n n, .pointer (some ⟨g2, 0, none⟩), .pointer (some ⟨g2, 0, none⟩), .pointer (some ⟨g2, 1, none⟩), .slice g.a n g.ca, .bool true, .bool false, .bool false, .bool false, .pointer (some ⟨g1, 0, none⟩), .slice (some ⟨g.y2, 0, none⟩) n n, .pointer (some ⟨g2, 0, none⟩), .pointer (some ⟨g2, 0, none⟩), .pointer (some ⟨g2, 2, none⟩), .slice g.v n g.cv, .bool true, .bool false, .bool false, .bool false, .pointer (some ⟨g1, 0, none⟩), .slice (some ⟨g.y3, 0, none⟩) s s, .pointer (some ⟨g2, 0, none⟩), .pointer (some ⟨g2, 0, none⟩), .pointer (some ⟨g2, 3, none⟩), .slice g.i s g.ci, .bool true, .bool false, .bool false] : List Value)) g).getD j undef := by
                intro q' j hj hLj
                have hj' : j = 0 ∨ j = 1 ∨ j = 2 ∨ j = 3 ∨ j = 4 ∨ j = 5 ∨ j = 6 ∨ j = 7 ∨ j = 8 ∨ j = 9 ∨ j = 10 ∨ j = 11 ∨ j = 12 ∨ j = 13 ∨ j = 14 ∨ j = 15 ∨ j = 16 ∨ j = 17 ∨ j = 18 ∨ j = 19 ∨ j = 20 ∨ j = 21 ∨ j = 22 ∨ j = 23 ∨ j = 24 ∨ j = 25 ∨ j = 26 ∨ j = 27 ∨ j = 28 ∨ j = 29 ∨ j = 30 ∨ j = 31 ∨ j = 32 ∨ j = 33 ∨ j = 34 ∨ j = 35 ∨ j = 36 ∨ j = 37 ∨ j = 38 ∨ j = 39 ∨ j = 40 ∨ j = 41 ∨ j = 42 ∨ j = 43 ∨ j = 44 ∨ j = 45 ∨ j = 46 ∨ j = 47 ∨ j = 48 ∨ j = 49 ∨ j = 50 ∨ j = 51 ∨ j = 52 ∨ j = 53 ∨ j = 54 ∨ j = 55 ∨ j = 56 := by omega
                rcases hj' with rfl | rfl | rfl | rfl | rfl | rfl | rfl | rfl | rfl | rfl | rfl | rfl | rfl | rfl | rfl | rfl | rfl | rfl | rfl | rfl | rfl | rfl | rfl | rfl | rfl | rfl | rfl | rfl | rfl | rfl | rfl | rfl | rfl | rfl | rfl | rfl | rfl | rfl | rfl | rfl | rfl | rfl | rfl | rfl | rfl | rfl | rfl | rfl | rfl | rfl | rfl | rfl | rfl | rfl | rfl | rfl | rfl
                all_goals first | rfl | (rw [hLi] at hLj; cases hLj) | (rw [hdn _ rfl (by kernel_rfl)] at hLj; cases hLj)
              have HS := Lib.hid hS
              clear hS hup hdn hold hv hLi
              refine Rgn.op_of_guard (j := 37) (d := 81) (b := false) rfl rfl (by kernel_rfl) hgd ?_
              clear hgd
              go_simp
              go_at_call 18
              (with_reducible refine (hc).mono ?_)
              rintro e w5 ⟨y, rfl, hy, hM, hBl⟩
              simp only [HN.out, HNV.out, HM.out]
              refine hK { g with y2 := y } _ (hag _) ?_
              show Tst wc.drew w q g1 g2 L2 ad vs ix ad2 vs2 ix2 (Rgn.mark L 39 7) (Rgn.mark L 39 15) (Rgn.mark L 39 29) (Rgn.mark L 39 34) (Rgn.mark L 39 39) (Rgn.mark L 39 44) (Rgn.mark L 39 49) (Rgn.mark L 39 54) _ _
              rw [Rgn.mark_self, Rgn.mark_ne (show 7 ≠ 39 by decide), Rgn.mark_ne (show 15 ≠ 39 by decide), Rgn.mark_ne (show 29 ≠ 39 by decide), Rgn.mark_ne (show 34 ≠ 39 by decide), Rgn.mark_ne (show 44 ≠ 39 by decide), Rgn.mark_ne (show 49 ≠ 39 by decide), Rgn.mark_ne (show 54 ≠ 39 by decide), z7, z15, z29, z34, z44, z49, z54]
              refine ⟨⟨L1b, hT1.below hBl⟩, fun _ h => (by cases h), fun _ _ => hM, fun h => (by cases h)⟩
            · have q8 : a.tmps[8]?.getD undef = .pointer (some ⟨g2, 0, none⟩) := (hold 8 (by kernel_rfl)).trans (by kernel_rfl)
              have hgd : a.tmps[81]?.getD undef = .bool false := hv 37 81 (by kernel_rfl) (by kernel_rfl)
              have HS := Lib.hid hS
              clear hS hup hdn hold hv hLi
              refine Rgn.op_of_guard (j := 37) (d := 81) (b := false) rfl rfl (by kernel_rfl) hgd ?_
              clear hgd
              go_simp
              exact hK _ _ (fun _ _ _ => rfl) HS.out
            · have q84 : a.tmps[84]?.getD undef = .pointer (some ⟨g2, 0, none⟩) := hv 40 84 (by kernel_rfl) (by kernel_rfl)
              have hgd : a.tmps[81]?.getD undef = .bool false := hv 37 81 (by kernel_rfl) (by kernel_rfl)
              have HS := Lib.hid hS
              clear hS hup hdn hold hv hLi
              refine Rgn.op_of_guard (j := 37) (d := 81) (b := false) rfl rfl (by kernel_rfl) hgd ?_
              clear hgd
              go_simp
              exact hK _ _ (fun _ _ _ => rfl) HS.out
            · have q85 : a.tmps[85]?.getD undef = .pointer (some ⟨g2, 0, none⟩) := hv 41 85 (by kernel_rfl) (by kernel_rfl)
              have hgd : a.tmps[81]?.getD undef = .bool false := hv 37 81 (by kernel_rfl) (by kernel_rfl)
              have HS := Lib.hid hS
              clear hS hup hdn hold hv hLi
              refine Rgn.op_of_guard (j := 37) (d := 81) (b := false) rfl rfl (by kernel_rfl) hgd ?_
              clear hgd
              go_simp
              exact hK _ _ (fun _ _ _ => rfl) HS.out
            · have q86 : a.tmps[86]?.getD undef = .pointer (some ⟨g2, 2, none⟩) := hv 42 86 (by kernel_rfl) (by kernel_rfl)
              have hgd : a.tmps[81]?.getD undef = .bool false := hv 37 81 (by kernel_rfl) (by kernel_rfl)
              have z7 : L 7 = true := hup 7 (by kernel_rfl)
              have z15 : L 15 = true := hup 15 (by kernel_rfl)
              have h0 : Tst wc.drew w q g1 g2 L2 ad vs ix ad2 vs2 ix2 (L 7) (L 15) (L 29) (L 34) (L 39) (L 44) (L 49) (L 54) g wq := hS
              rw [z7, z15] at h0
              have hc1 := tst_cellv h0
              simp only [HN.out, HM.out] at hc1
              have HS := Lib.hid hS
              clear hS hup hdn hold hv hLi
              refine Rgn.op_of_guard (j := 37) (d := 81) (b := false) rfl rfl (by kernel_rfl) hgd ?_
              clear hgd
              go_simp
              exact hK _ _ (fun _ _ _ => rfl) HS.out
            · have q83 : a.tmps[83]?.getD undef = .slice (some ⟨g.y2, 0, none⟩) n n := hv 39 83 (by kernel_rfl) (by kernel_rfl)
              have q87 : a.tmps[87]?.getD undef = .slice g.v n g.cv := hv 43 87 (by kernel_rfl) (by kernel_rfl)
              have hgd : a.tmps[81]?.getD undef = .bool false := hv 37 81 (by kernel_rfl) (by kernel_rfl)
              have z7 : L 7 = true := hup 7 (by kernel_rfl)
              have z15 : L 15 = true := hup 15 (by kernel_rfl)
              have z29 : L 29 = true := hup 29 (by kernel_rfl)
              have z34 : L 34 = true := hup 34 (by kernel_rfl)
              have z39 : L 39 = true := hup 39 (by kernel_rfl)
              have z44 : L 44 = false := hLi
              have z49 : L 49 = false := hdn 49 rfl (by kernel_rfl)
              have z54 : L 54 = false := hdn 54 rfl (by kernel_rfl)
              have h0 : Tst wc.drew w q g1 g2 L2 ad vs ix ad2 vs2 ix2 (L 7) (L 15) (L 29) (L 34) (L 39) (L 44) (L 49) (L 54) g wq := hS
              rw [z7, z15, z29, z34, z39, z44] at h0
              obtain ⟨⟨L1b, hT1⟩, hm0, hm1, hm2⟩ := h0
              have hc := k_words _ _ _ vs2 (rdw_mem (hm1 rfl rfl)) (rdw_own hT1.r.rv) (by have := hT1.r.ok.few; have := hT1.r.c32; have := hT1.r.ok.lv; omega)
              simp only [HN.out, HNV.out, HM.out] at hc
              have HS := Lib.hid hS
              clear hS hup hdn hold hv hLi
              refine Rgn.op_of_guard (j := 37) (d := 81) (b := false) rfl rfl (by kernel_rfl) hgd ?_
              clear hgd
              go_simp
              go_at_call 17
              (with_reducible refine (hc).mono ?_)
              rintro e w5 ⟨rfl, nd, rfl⟩
              refine hK g _ (fun _ _ _ => rfl) ?_
              show Tst wc.drew w q g1 g2 L2 ad vs ix ad2 vs2 ix2 (Rgn.mark L 44 7) (Rgn.mark L 44 15) (Rgn.mark L 44 29) (Rgn.mark L 44 34) (Rgn.mark L 44 39) (Rgn.mark L 44 44) (Rgn.mark L 44 49) (Rgn.mark L 44 54) _ _
              rw [Rgn.mark_self, Rgn.mark_ne (show 7 ≠ 44 by decide), Rgn.mark_ne (show 15 ≠ 44 by decide), Rgn.mark_ne (show 29 ≠ 44 by decide), Rgn.mark_ne (show 34 ≠ 44 by decide), Rgn.mark_ne (show 39 ≠ 44 by decide), Rgn.mark_ne (show 49 ≠ 44 by decide), Rgn.mark_ne (show 54 ≠ 44 by decide), z7, z15, z29, z34, z39, z49, z54]
              refine ⟨⟨L1b, hT1.drewN nd⟩, fun _ h => (by cases h), fun _ h => (by cases h), fun h => (by cases h)⟩
            · have q88 : a.tmps[88]?.getD undef = .bool true := hv 44 88 (by kernel_rfl) (by kernel_rfl)
              have hgd : a.tmps[81]?.getD undef = .bool false := hv 37 81 (by kernel_rfl) (by kernel_rfl)
              have HS := Lib.hid hS
              clear hS hup hdn hold hv hLi
              refine Rgn.op_of_guard (j := 37) (d := 81) (b := false) rfl rfl (by kernel_rfl) hgd ?_
              clear hgd
              go_simp
              exact hK _ _ (fun _ _ _ => rfl) HS.out
            · have q81 : a.tmps[81]?.getD undef = .bool false := hv 37 81 (by kernel_rfl) (by kernel_rfl)
              have q89 : a.tmps[89]?.getD undef = .bool false := hv 45 89 (by kernel_rfl) (by kernel_rfl)
              have HS := Lib.hid hS
              clear hS hup hdn hold hv hLi
              refine Rgn.op_of rfl rfl ?_
              go_simp
              exact hK _ _ (fun _ _ _ => rfl) HS.out
            · have q90 : a.tmps[90]?.getD undef = .bool false := hv 46 90 (by kernel_rfl) (by kernel_rfl)
              have HS := Lib.hid hS
              clear hS hup hdn hold hv hLi
              refine Rgn.op_of rfl rfl ?_
              go_simp
              exact hK _ _ (fun _ _ _ => rfl) HS.out
            · have q7 : a.tmps[7]?.getD undef = .pointer (some ⟨g1, 0, none⟩) := (hold 7 (by kernel_rfl)).trans (by kernel_rfl)
              have hgd : a.tmps[91]?.getD undef = .bool false := hv 47 91 (by kernel_rfl) (by kernel_rfl)
              have HS := Lib.hid hS
              clear hS hup hdn hold hv hLi
              refine Rgn.op_of_guard (j := 47) (d := 91) (b := false) rfl rfl (by kernel_rfl) hgd ?_
              clear hgd
              go_simp
              exact hK _ _ (fun _ _ _ => rfl) HS.out
            · have q92 : a.tmps[92]?.getD undef = .pointer (some ⟨g1, 0, none⟩) := hv 48 92 (by kernel_rfl) (by kernel_rfl)
              have hgd : a.tmps[91]?.getD undef = .bool false := hv 47 91 (by kernel_rfl) (by kernel_rfl)
              have z7 : L 7 = true := hup 7 (by kernel_rfl)
              have z15 : L 15 = true := hup 15 (by kernel_rfl)
              have z29 : L 29 = true := hup 29 (by kernel_rfl)
              have z34 : L 34 = true := hup 34 (by kernel_rfl)
              have z39 : L 39 = true := hup 39 (by kernel_rfl)
              have z44 : L 44 = true := hup 44 (by kernel_rfl)
              have z49 : L 49 = false := hLi
              have z54 : L 54 = false := hdn 54 rfl (by kernel_rfl)
              have h0 : Tst wc.drew w q g1 g2 L2 ad vs ix ad2 vs2 ix2 (L 7) (L 15) (L 29) (L 34) (L 39) (L 44) (L 49) (L 54) g wq := hS
              rw [z7, z15, z29, z34, z39, z44, z49] at h0
              obtain ⟨⟨L1b, hT1⟩, _⟩ := h0
              have hc := a_index _ _ _ _ _ _ _ hT1.p
              rw [hT1.e1] at hc
              have hag : ∀ (yy : Nat), ∀ j, j < 57 → L j = true → ((fun g : Gh => ([.pointer (some ⟨g1, 0, none⟩), .int .i64 t, .slice (some ⟨b, off, none⟩) n1 c1, .int .i64 k, .pointer (some ⟨b, off + k * 2, none⟩), .pointer (some ⟨b, off + k * 2 + 1, none⟩), .int .u64 v, .bool rr, .pointer (some ⟨g2, 0, none⟩), .int .i64 t, .slice (some ⟨b, off, none⟩) n1 c1, .int .i64 k, .pointer (some ⟨b, off + k * 2, none⟩), .pointer (some ⟨b, off + k * 2 + 1, none⟩), .int .u64 v, .bool rr, .bool false, .bool false, .pointer (some ⟨g1, 0, none⟩), .int .i64 n, .pointer (some ⟨g2, 0, none⟩), .pointer (some ⟨g2, 0, none⟩), .pointer (some ⟨g2, 1, none⟩), .slice g.a n g.ca, .int .i64 n, .bool false, .bool false, .bool false, .pointer (some ⟨g1, 0, none⟩), .slice (some ⟨g.y1, 0, none⟩) n n, .pointer (some ⟨g2, 0, none⟩), .pointer (some ⟨g2, 0, none⟩), .pointer (some ⟨g2, 1, none⟩), .slice g.a n g.ca, .bool true, .bool false, .bool false, .bool false, .pointer (some ⟨g1, 0, none⟩), .slice (some ⟨g.y2, 0, none⟩) n n, .pointer (some ⟨g2, 0, none⟩), .pointer (some ⟨g2, 0, none⟩), .pointer (some ⟨g2, 2, none⟩), .slice g.v n g.cv, .bool true, .bool false, .bool false, .bool false, .pointer (some ⟨g1, 0, none⟩), .slice (some ⟨g.y3, 0, none⟩) s s, .pointer (some ⟨g2, 0, none⟩), .pointer (some ⟨g2, 0, none⟩), .pointer (some ⟨g2, 3, none⟩), .slice g.i s g.ci, .bool true, .bool false, .bool false] : List Value)) { g with y3 := yy }).getD j undef = ((fun g : Gh => ([.pointer (some ⟨g1, 0, none⟩), .int .i64 t, .slice (some ⟨b, off, none⟩) n1 c1, .int .i64 k, .pointer (some ⟨b, off + k * 2, none⟩), .pointer (some ⟨b, off + k * 2 + 1, none⟩), .int .u64 v, .bool rr, .pointer (some ⟨g2, 0, none⟩), .int .i64 t, .slice (some ⟨b, off, none⟩) n1 c1, .int .i64 k, .pointer (some ⟨b, off + k * 2, none⟩), .pointer (some ⟨b, off + k * 2 + 1, none⟩), .int .u64 v, .bool rr, .bool false, .bool false, .pointer (some ⟨g1, 0, none⟩), .int .i64 n, .pointer (some ⟨g2, 0, none⟩), .pointer (some ⟨g2, 0, none⟩), .pointer (some ⟨g2, 1, none⟩), .slice g.a n g.ca, .int .i64 n, .bool false, .bool false, .bool false, .pointer (some ⟨g1, 0, none⟩), .slice (some ⟨g.y1, 0, none⟩) n n, .pointer (some ⟨g2, 0, none⟩), .pointer (some ⟨g2, 0, none⟩), .pointer (some ⟨g2, 1, none⟩), .slice g.a n g.ca, .bool true, .bool false, .bool false, .bool false, .pointer (some ⟨g1, 0, none⟩), .slice (some ⟨g.y2, 0, none⟩) n n, .pointer (some ⟨g2, 0, none⟩), .pointer (some ⟨g2, 0, none⟩), .pointer (some ⟨g2, 2, none⟩), .slice g.v n g.cv, .bool true, .bool false, .bool false, .bool false, .pointer (some ⟨g1, 0, none⟩), .slice (some ⟨g.y3, 0, none⟩) s s, .pointer (some ⟨g2, 0, none⟩), .pointer (some ⟨g2, 0, none⟩), .pointer (some ⟨g2, 3, none⟩), .slice g.i s g.ci, .bool true, .bool false, .bool false] : List Value)) g).getD j undef := by
                intro q' j hj hLj
                have hj' : j = 0 ∨ j = 1 ∨ j = 2 ∨ j = 3 ∨ j = 4 ∨ j = 5 ∨ j = 6 ∨ j = 7 ∨ j = 8 ∨ j = 9 ∨ j = 10 ∨ j = 11 ∨ j = 12 ∨ j = 13 ∨ j = 14 ∨ j = 15 ∨ j = 16 ∨ j = 17 ∨ j = 18 ∨ j = 19 ∨ j = 20 ∨ j = 21 ∨ j = 22 ∨ j = 23 ∨ j = 24 ∨ j = 25 ∨ j = 26 ∨ j = 27 ∨ j = 28 ∨ j = 29 ∨ j = 30 ∨ j = 31 ∨ j = 32 ∨ j = 33 ∨ j = 34 ∨ j = 35 ∨ j = 36 ∨ j = 37 ∨ j = 38 ∨ j = 39 ∨ j = 40 ∨ j = 41 ∨ j = 42 ∨ j = 43 ∨ j = 44 ∨ j = 45 ∨ j = 46 ∨ j = 47 ∨ j = 48 ∨ j = 49 ∨ j = 50 ∨ j = 51 ∨ j = 52 ∨ j = 53 ∨ j = 54 ∨ j = 55 ∨ j = 56 := by omega
                rcases hj' with rfl | rfl | rfl | rfl | rfl | rfl | rfl | rfl | rfl | rfl | rfl | rfl | rfl | rfl | rfl | rfl | rfl | rfl | rfl | rfl | rfl | rfl | rfl | rfl | rfl | rfl | rfl | rfl | rfl | rfl | rfl | rfl | rfl | rfl | rfl | rfl | rfl | rfl | rfl | rfl | rfl | rfl | rfl | rfl | rfl | rfl | rfl | rfl | rfl | rfl | rfl | rfl | rfl | rfl | rfl | rfl | rfl
                all_goals first | rfl | (rw [hLi] at hLj; cases hLj) | (rw [hdn _ rfl (by kernel_rfl)] at hLj; cases hLj)
              have HS := Lib.hid hS
              clear hS hup hdn hold hv hLi
              refine Rgn.op_of_guard (j := 47) (d := 91) (b := false) rfl rfl (by kernel_rfl) hgd ?_
              clear hgd
              go_simp
              go_at_call 19
              (with_reducible refine (hc).mono ?_)
              rintro e w5 ⟨y, rfl, hy, hM, hBl⟩
              simp only [HN.out, HNV.out, HM.out]
              refine hK { g with y3 := y } _ (hag _) ?_
              show Tst wc.drew w q g1 g2 L2 ad vs ix ad2 vs2 ix2 (Rgn.mark L 49 7) (Rgn.mark L 49 15) (Rgn.mark L 49 29) (Rgn.mark L 49 34) (Rgn.mark L 49 39) (Rgn.mark L 49 44) (Rgn.mark L 49 49) (Rgn.mark L 49 54) _ _
              rw [Rgn.mark_self, Rgn.mark_ne (show 7 ≠ 49 by decide), Rgn.mark_ne (show 15 ≠ 49 by decide), Rgn.mark_ne (show 29 ≠ 49 by decide), Rgn.mark_ne (show 34 ≠ 49 by decide), Rgn.mark_ne (show 39 ≠ 49 by decide), Rgn.mark_ne (show 44 ≠ 49 by decide), Rgn.mark_ne (show 54 ≠ 49 by decide), z7, z15, z29, z34, z39, z44, z54]
              refine ⟨⟨L1b, hT1.below hBl⟩, fun _ h => (by cases h), fun _ h => (by cases h), fun _ _ => hM⟩
            · have q8 : a.tmps[8]?.getD undef = .pointer (some ⟨g2, 0, none⟩) := (hold 8 (by kernel_rfl)).trans (by kernel_rfl)
              have hgd : a.tmps[91]?.getD undef = .bool false := hv 47 91 (by kernel_rfl) (by kernel_rfl)
              have HS := Lib.hid hS
              clear hS hup hdn hold hv hLi
              refine Rgn.op_of_guard (j := 47) (d := 91) (b := false) rfl rfl (by kernel_rfl) hgd ?_
              clear hgd
              go_simp
              exact hK _ _ (fun _ _ _ => rfl) HS.out
            · have q94 : a.tmps[94]?.getD undef = .pointer (some ⟨g2, 0, none⟩) := hv 50 94 (by kernel_rfl) (by kernel_rfl)
              have hgd : a.tmps[91]?.getD undef = .bool false := hv 47 91 (by kernel_rfl) (by kernel_rfl)
              have HS := Lib.hid hS
              clear hS hup hdn hold hv hLi
              refine Rgn.op_of_guard (j := 47) (d := 91) (b := false) rfl rfl (by kernel_rfl) hgd ?_
              clear hgd
              go_simp
              exact hK _ _ (fun _ _ _ => rfl) HS.out
            · have q95 : a.tmps[95]?.getD undef = .pointer (some ⟨g2, 0, none⟩) := hv 51 95 (by kernel_rfl) (by kernel_rfl)
              have hgd : a.tmps[91]?.getD undef = .bool false := hv 47 91 (by kernel_rfl) (by kernel_rfl)
              have HS := Lib.hid hS
              clear hS hup hdn hold hv hLi
              refine Rgn.op_of_guard (j := 47) (d := 91) (b := false) rfl rfl (by kernel_rfl) hgd ?_
              clear hgd
              go_simp
              exact hK _ _ (fun _ _ _ => rfl) HS.out
            · have q96 : a.tmps[96]?.getD undef = .pointer (some ⟨g2, 3, none⟩) := hv 52 96 (by kernel_rfl) (by kernel_rfl)
              have hgd : a.tmps[91]?.getD undef = .bool false := hv 47 91 (by kernel_rfl) (by kernel_rfl)
              have z7 : L 7 = true := hup 7 (by kernel_rfl)
              have z15 : L 15 = true := hup 15 (by kernel_rfl)
              have h0 : Tst wc.drew w q g1 g2 L2 ad vs ix ad2 vs2 ix2 (L 7) (L 15) (L 29) (L 34) (L 39) (L 44) (L 49) (L 54) g wq := hS
              rw [z7, z15] at h0
              have hc1 := tst_celli h0
              simp only [HN.out, HM.out] at hc1
              have HS := Lib.hid hS
              clear hS hup hdn hold hv hLi
              refine Rgn.op_of_guard (j := 47) (d := 91) (b := false) rfl rfl (by kernel_rfl) hgd ?_
              clear hgd
              go_simp
              exact hK _ _ (fun _ _ _ => rfl) HS.out
            · have q93 : a.tmps[93]?.getD undef = .slice (some ⟨g.y3, 0, none⟩) s s := hv 49 93 (by kernel_rfl) (by kernel_rfl)
              have q97 : a.tmps[97]?.getD undef = .slice g.i s g.ci := hv 53 97 (by kernel_rfl) (by kernel_rfl)
              have hgd : a.tmps[91]?.getD undef = .bool false := hv 47 91 (by kernel_rfl) (by kernel_rfl)
              have z7 : L 7 = true := hup 7 (by kernel_rfl)
              have z15 : L 15 = true := hup 15 (by kernel_rfl)
              have z29 : L 29 = true := hup 29 (by kernel_rfl)
              have z34 : L 34 = true := hup 34 (by kernel_rfl)
              have z39 : L 39 = true := hup 39 (by kernel_rfl)
              have z44 : L 44 = true := hup 44 (by kernel_rfl)
              have z49 : L 49 = true := hup 49 (by kernel_rfl)
              have z54 : L 54 = false := hLi
              have h0 : Tst wc.drew w q g1 g2 L2 ad vs ix ad2 vs2 ix2 (L 7) (L 15) (L 29) (L 34) (L 39) (L 44) (L 49) (L 54) g wq := hS
              rw [z7, z15, z29, z34, z39, z44, z49, z54] at h0
              obtain ⟨⟨L1b, hT1⟩, hm0, hm1, hm2⟩ := h0
              have hc := k_ints _ _ _ ix2 (rdi_mem (hm2 rfl rfl)) (rdi_own hT1.r.ri) (by have := hT1.r.ok.sz; omega)
              simp only [HN.out, HNV.out, HM.out] at hc
              have HS := Lib.hid hS
              clear hS hup hdn hold hv hLi
              refine Rgn.op_of_guard (j := 47) (d := 91) (b := false) rfl rfl (by kernel_rfl) hgd ?_
              clear hgd
              go_simp
              go_at_call 15
              (with_reducible refine (hc).mono ?_)
              rintro e w5 ⟨rfl, nd, rfl⟩
              refine hK g _ (fun _ _ _ => rfl) ?_
              show Tst wc.drew w q g1 g2 L2 ad vs ix ad2 vs2 ix2 (Rgn.mark L 54 7) (Rgn.mark L 54 15) (Rgn.mark L 54 29) (Rgn.mark L 54 34) (Rgn.mark L 54 39) (Rgn.mark L 54 44) (Rgn.mark L 54 49) (Rgn.mark L 54 54) _ _
              rw [Rgn.mark_self, Rgn.mark_ne (show 7 ≠ 54 by decide), Rgn.mark_ne (show 15 ≠ 54 by decide), Rgn.mark_ne (show 29 ≠ 54 by decide), Rgn.mark_ne (show 34 ≠ 54 by decide), Rgn.mark_ne (show 39 ≠ 54 by decide), Rgn.mark_ne (show 44 ≠ 54 by decide), Rgn.mark_ne (show 49 ≠ 54 by decide), z7, z15, z29, z34, z39, z44, z49]
              refine ⟨⟨L1b, hT1.drewN nd⟩, fun _ h => (by cases h), fun _ h => (by cases h), fun _ h => (by cases h)⟩
            · have q98 : a.tmps[98]?.getD undef = .bool true := hv 54 98 (by kernel_rfl) (by kernel_rfl)
              have hgd : a.tmps[91]?.getD undef = .bool false := hv 47 91 (by kernel_rfl) (by kernel_rfl)
              have HS := Lib.hid hS
              clear hS hup hdn hold hv hLi
              refine Rgn.op_of_guard (j := 47) (d := 91) (b := false) rfl rfl (by kernel_rfl) hgd ?_
              clear hgd
              go_simp
              exact hK _ _ (fun _ _ _ => rfl) HS.out
            · have q91 : a.tmps[91]?.getD undef = .bool false := hv 47 91 (by kernel_rfl) (by kernel_rfl)
              have q99 : a.tmps[99]?.getD undef = .bool false := hv 55 99 (by kernel_rfl) (by kernel_rfl)
              have HS := Lib.hid hS
              clear hS hup hdn hold hv hLi
              refine Rgn.op_of rfl rfl ?_
              go_simp
              exact hK _ _ (fun _ _ _ => rfl) HS.out
          · intro g L wq hall hS
            have h0 : Tst wc.drew w q g1 g2 L2 ad vs ix ad2 vs2 ix2 (L 7) (L 15) (L 29) (L 34) (L 39) (L 44) (L 49) (L 54) g wq := hS
            rw [hall 7 rfl, hall 15 rfl, hall 29 rfl, hall 34 rfl, hall 39 rfl, hall 44 rfl, hall 49 rfl, hall 54 rfl] at h0
            obtain ⟨⟨L1b, hT1⟩, _⟩ := h0
            have HT3 := Lib.hid hT1
            have hp0 : ∀ nd, Calls Try.prog 20 #[.pointer (some ⟨g1, 0, none⟩), .int .i64 t] (wq.drewN nd) fun e w' => e = .returned (.tuple #[.int .u64 p0, .bool b0]) ∧ Ws (wq.drewN nd) w' := fun nd => by
              have := a_get _ _ _ _ _ _ _ t (HT3.out.p.drewN nd)
              rw [HT3.out.e1, HP0.out, HB0.out] at this
              exact this
            have hr0 : ∀ nd, Calls Try.prog 21 #[.pointer (some ⟨g2, 0, none⟩), .int .i64 t] (wq.drewN nd) fun e w' => e = .returned (.tuple #[.int .u64 p0, .bool b0]) ∧ w' = wq.drewN nd := fun nd => by
              have := r_get _ _ _ _ _ _ _ t (HT3.out.r.drewN nd)
              rw [HP0.out, HB0.out] at this
              exact this
            have hp1 : ∀ nd, Calls Try.prog 20 #[.pointer (some ⟨g1, 0, none⟩), .int .i64 t1] (wq.drewN nd) fun e w' => e = .returned (.tuple #[.int .u64 p1, .bool b1]) ∧ Ws (wq.drewN nd) w' := fun nd => by
              have := a_get _ _ _ _ _ _ _ t1 (HT3.out.p.drewN nd)
              rw [HT3.out.e1, HP1.out, HB1.out] at this
              exact this
            have hr1 : ∀ nd, Calls Try.prog 21 #[.pointer (some ⟨g2, 0, none⟩), .int .i64 t1] (wq.drewN nd) fun e w' => e = .returned (.tuple #[.int .u64 p1, .bool b1]) ∧ w' = wq.drewN nd := fun nd => by
              have := r_get _ _ _ _ _ _ _ t1 (HT3.out.r.drewN nd)
              rw [HP1.out, HB1.out] at this
              exact this
            have hp00 : Calls Try.prog 20 #[.pointer (some ⟨g1, 0, none⟩), .int .i64 t] wq fun e w' => e = .returned (.tuple #[.int .u64 p0, .bool b0]) ∧ Ws wq w' := hp0 0
            have u0 : (p0 != p0) = false := by simp
            have u1 : (p1 != p1) = false := by simp
            have u2 : (b0 != b0) = false := by simp
            have u3 : (b1 != b1) = false := by simp
            clear hT1 hS hall
            simp only [Rgn.putAll, Act.put]
            go_simp
            go_at_K
            go_wp2_with (first
              | (go_at_call 20; (with_reducible refine hp00.mono ?_); rintro e x1 ⟨rfl, n1, rfl⟩)
              | (go_at_call 21; (with_reducible refine (hr0 _).mono ?_); rintro e x2 ⟨rfl, rfl⟩)
              | (go_at_call 20; (with_reducible refine (hp1 _).mono ?_); rintro e x3 ⟨rfl, n3, rfl⟩)
              | (go_at_call 21; (with_reducible refine (hr1 _).mono ?_); rintro e x4 ⟨rfl, rfl⟩))
            go_roundw
            case rel => exact ⟨k + 1, _, _, _, _, _, by omega, by go_num, HT3.out.drewN _⟩
            case measure => simp [intOf]; omega
      · go_wp2_with fail
        refine (RlE.l_awake _).mono ?_
        rintro e w6 ⟨rfl, hb6⟩
        have HB6 := Lib.hid (HZQ.out.trans (hb6.mono HZQ.out.size))
        clear hb6
        go_wp2
        go_ret
        exact ⟨rfl, .of_below HB6.out⟩

/-! The row's step. -/
set_option maxRecDepth 100000 in
theorem lifted (os : Os) (started : os.Started) (H : Type) (enc : TypeId × Value → H) :
    ReturnsInHanded {} Try.checked os 3 .any (Rows.redoFollowsSpec.pre6 enc Try.prog Try.f3 Rows.redoFollowsRow.domain false) (Rows.redoFollowsSpec.post enc Try.prog Try.f3 false true false false) := by
  refine returnsInHanded_of_change (C := Try.checked) own started (by kernel_rfl) Try.func3
    (ChangeSpec.witness6 (enc := enc) (C := Try.checked) false ⟨#[], #[.int .i64 0, .slice none 0 0, .bool false], []⟩ 8 (by kernel_rfl) (by kernel_rfl) (by kernel_rfl) (by kernel_rfl)) ?_
  intro W base args ds gs before hval0 hW hcnd _
  have hval : ∀ (j : Nat) t v, Try.f3.params[j]? = some t → args[j]? = some v → Value.okWide Try.prog W .any base t v := hval0
  have hW' := hW
  obtain ⟨p, q, hA0, hV, rfl, hfz, hnd⟩ := hW
  have hA : DataW.TrodAll enc Try.prog W 0 (fun _ => true) true Try.f3.params.toList args.toList ds p := hA0
  rw [Try.params3] at hA hval
  obtain ⟨v0, vs0, d0, ds0, p0, q0, hargs, rfl, rfl, h0, r0⟩ := trodAll_cons hA
  obtain ⟨v1, vs1, d1, ds1, p1, q1, rfl, rfl, rfl, h1, r1⟩ := trodAll_cons r0
  obtain ⟨v2, vs2, d2, ds2, p2, q2, rfl, rfl, rfl, h2, r2⟩ := trodAll_cons r1
  obtain ⟨rfl, rfl, rfl⟩ := trodAll_nil r2
  obtain rfl : args = #[v0, v1, v2] := by cases args; simp_all
  obtain ⟨rfl, rfl⟩ := trodVars_none hV
  have hk : ∀ W', Kept W W' → Rows.redoFollowsSpec.post enc Try.prog Try.f3 false true false false W #[v0, v1, v2] (.bool true) W' := fun W' hb =>
    post_law laidOut readable rfl Try.underlying4 rfl hW' rfl hb
  clear hA0 hval0 hA hW'
  obtain ⟨a0, rfl, rfl, rfl, w0⟩ := open_int Try.underlying3 (hval 0 3 v0 rfl rfl) h0
  obtain ⟨A1, n1, c1, rfl, l1, m1, s1⟩ := RlF.open_row (hval 1 22 v1 rfl rfl) h1
  obtain ⟨a2, rfl, rfl, rfl⟩ := open_bool Try.underlying4 (hval 2 4 v2 rfl rfl) h2
  refine (walk W a0 w0 A1 n1 c1 l1 m1 s1 a2).mono fun e W' ⟨he, hg⟩ => ?_
  subst he
  exact ⟨_, rfl, hk W' hg⟩

theorem over : Rows.redoFollowsRow.holds Try.pinned (OpenSpec.ofChange Rows.redoFollowsSpec) :=
  OpenClaim.holds_of_wide 3 Try.f3 rfl rfl rfl rfl rfl rfl rfl ⟨rfl, rfl, rfl, rfl, rfl⟩ rfl rfl rfl rfl rfl (by kernel_rfl) Try.func3 (by kernel_rfl)
    (of_decide_eq_true (by kernel_rfl)) (by unfold Func.isWrapper; first | (rw [if_pos (by decide +kernel)]; kernel_rfl) | (rw [if_neg (by decide +kernel)]; exact ⟨rfl, rfl⟩))
    (fun os started H enc _ => lifted os started H enc)

/-- The statement. -/
theorem proved : Rows.RedoFollowsSaid :=
  over
#print axioms proved
end Go.Proofs.Ytelpimhgodkmlaa.redoFollows
