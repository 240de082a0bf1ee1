/-
  Proved: additions are exact modulo 2^64: the counter holds the sum of what was added, and each addition returns the sum of those before it. No condition.
-/
import Derived.Test.YtbedgdpcopghfaaRows
import Derived.WalkKit
import Derived.ProofKit
import Derived.OpenShut
import Derived.Test.YtbedgdpcopghfaaFrame
import Derived.Test.YtbedgdpcopghfaaLayO
import Derived.Test.YtbedgdpcopghfaaCelB
import Derived.Test.YtbedgdpcopghfaaCelY
import Derived.Test.YtbedgdpcopghfaaCelW
import Derived.Deep.Cut
import Derived.BigQuiet
namespace Go.Proofs.Ytbedgdpcopghfaa.cellsCounts
open Go.ChangeShapes Go.WideShapes Go.ChangeAt Go.RowKit
open LawFrame
open Go.ChangeMaps (open_string)
set_option linter.unusedVariables false

theorem own : ownKnob Try.prog.godebug = none := by kernel_rfl
theorem laidOut : laidOutB Try.prog = true := by kernel_rfl
theorem cells25 : Try.prog.cellsOf 25 = 1 := by kernel_rfl

open PlainT BlkW LayS LayA LayH LayK LayO LayP CelS CelM CelP CelV CelN CelO CelF CelB CelI CelW CelY
set_option maxHeartbeats 4000000
set_option maxRecDepth 100000
/-- What the loop carries. -/
structure LS (w0 : World) (lo hi b : Nat) (sum : Int) (w : World) : Prop where
  ex : ∃ A : Int → List Int, Is lo hi w b A ∧ A 5 = [sum] ∧ A 3 = [0] ∧ A 4 = [0]
  lo : w0.heap.size ≤ lo
  old : Below w0.heap.size w0 w
theorem img4 (d o l h n : Value) (c t s : Int) (w : World) : (Instr.field 50 (imgV d o c t s l h n) 4).run Try.prog w = .ok (.int .u64 s) w := by kernel_rfl

theorem readable : ∀ t ∈ Try.f9.params.toList, Try.prog.readableRec t = true ∧ t < Try.prog.types.size := by
  have h : (Try.f9.params.toList.all fun t => Try.prog.readableRec t && decide (t < Try.prog.types.size)) = true := by kernel_rfl
  intro t ht
  have := List.all_eq_true.1 h t ht
  simpa using this

/-! The walk. -/
theorem walk (w : World) (x0_0 x0_1 x0_2 x0_3 x0_4 : Int) (wx0_0 : LayS.InI x0_0) (wx0_1 : LayS.InI x0_1) (wx0_2 : LayS.InI x0_2) (wx0_3 : LayS.InI x0_3) (wx0_4 : LayS.InI x0_4) (A1 : Option Addr) (n1 c1 : Nat) (z1 : List Int) (l1 : n1 ≤ c1) (m1 : c1 ≤ maxLen) (s1 : Ints .u64 w A1 n1 z1) :
    Calls Try.prog 9 #[.agg #[.int .i64 x0_0, .int .i64 x0_1, .int .i64 x0_2, .int .i64 x0_3, .int .i64 x0_4], .slice A1 n1 c1] w fun e w' => e = .returned (.bool true) ∧ Kept w w' := by
  show Calls _ _ #[.agg _, _] _ _
  clear wx0_0 wx0_1 wx0_2 wx0_3 wx0_4
  have HB0 := Lib.hid (below_new w (.cells #[.int .i64 x0_0, .int .i64 x0_1, .int .i64 x0_2, .int .i64 x0_3, .int .i64 x0_4] 28))
  have HZ := Lib.hid s1
  clear s1
  by_cases hbig : (60 : Int) < n1
  · go_enter Try.func9, Try.ntmps9
    go_wp2_with fail
    refine (CelA.l_awake _).mono ?_
    rintro e w3 ⟨rfl, hb1⟩
    have HB1 := Lib.hid (below_trans2 HB0.out hb1)
    clear hb1
    go_wp2
    go_ret
    exact ⟨rfl, .of_below HB1.out⟩
  · have hn60 : (n1 : Int) ≤ 60 := by omega
    clear hbig
    go_enter Try.func9, Try.ntmps9
    go_upto_region 6 with (go_at_call 25; refine (l_start _ _ _ _ _ _ _).mono ?_; rintro e w1 ⟨q, n, no, nt, lo1, hi1, lo2, hi2, b, rb, rfl, hst⟩)
    have HB1 := Lib.hid (below_trans2 HB0.out hst.old)
    have HLO : Hid (w.heap.size ≤ lo1) := Lib.hid (Nat.le_trans HB0.out.size hst.lo)
    have HLS : Hid (LS w lo1 hi1 b 0 w1) := Lib.hid ⟨⟨_, hst.mem, rfl, rfl, rfl⟩, HLO.out, HB1.out⟩
    clear hst HB0
    go_wp2_with fail
    go_loopw [8, 9] (fun sv kv wr => ∃ (k : Nat) (sum : Int), k ≤ n1 ∧ kv = .int .i64 k ∧ sv = .int .u64 sum ∧ LS w lo1 hi1 b sum wr ∧ ZZ w lo1 A1 n1 z1 wr) (fun _ kv _ => n1 - (intOf kv).toNat)
    case atStart => exact ⟨0, 0, by omega, rfl, rfl, HLS.out, HZ.out, HB1.out, HLO.out⟩
    case round =>
      clear HLS
      obtain ⟨k, sum, hk, rfl, rfl, hls, hzz⟩ := hrel
      obtain ⟨⟨A, hI, h5, h3, h4⟩, _, hbel⟩ := hls
      have HB := Lib.hid hbel
      have HZZ := Lib.hid hzz
      have HA3 := Lib.hid h3
      have HA4 := Lib.hid h4
      have HA5 := Lib.hid h5
      clear hbel hzz h3 h4 h5
      by_cases hlt : k < n1
      · have hlk : (k : Int) < n1 := by omega
        obtain ⟨ib, io, x, rfl, hib, hcx, x0, x1⟩ := zz_at HZZ.out hlt
        have HCX := Lib.hid hcx
        have HIB := Lib.hid hib
        obtain ⟨s2, hs2⟩ : ∃ s2, IntKind.u64.wrap (sum + x) = s2 := ⟨_, rfl⟩
        have HW := Lib.hid hs2
        have hadd : Calls Try.prog 33 #[.pointer (some ⟨b, 0, none⟩), .int .i64 5, .int .i64 0, .int .u64 x] wr fun e w' => Does lo1 hi1 wr b (upd A 5 0 s2) (accV 4 5 0 sum s2 true) 0 e w' := m_add lo1 hi1 wr b A hI 5 (by decide) 0 (by rw [HA5.out]; simp) sum (by rw [HA5.out]; rfl) x s2 HW
        go_upto_region 11 with (go_at_call 33; refine hadd.mono ?_; rintro e w5 ⟨rfl, hI5, hS5⟩)
        have HLS5 : Hid (LS w lo1 hi1 b s2 (w5.alloc (.cells #[.int .i64 4, .int .i64 5, .int .i64 0, .int .u64 sum, .int .u64 s2, .bool true] 63))) := Lib.hid ⟨⟨_, hI5.below (below_new _ _), by simp [upd, HA5.out], by simp [upd, HA3.out], by simp [upd, HA4.out]⟩, HLO.out, (HB.out.trans (hS5.below HLO.out HB.out.size)).alloc (by have := hS5.size; have := HB.out.size; omega) _⟩
        have HM5 := Lib.hid (Mem.new w5 63 #[.int .i64 4, .int .i64 5, .int .i64 0, .int .u64 sum, .int .u64 s2, .bool true])
        obtain ⟨W5, hW5⟩ : ∃ W5, w5.alloc (.cells #[.int .i64 4, .int .i64 5, .int .i64 0, .int .u64 sum, .int .u64 s2, .bool true] 63) = W5 := ⟨_, rfl⟩
        rw [hW5] at HLS5 HM5 ⊢
        clear hW5 hI5 hS5 hcx hI
        have a3 : W5.cell? ⟨w5.heap.size, 3, none⟩ = some (.int .u64 sum) := HM5.out.cell 3
        have a4 : W5.cell? ⟨w5.heap.size, 4, none⟩ = some (.int .u64 s2) := HM5.out.cell 4
        have a5 : W5.cell? ⟨w5.heap.size, 5, none⟩ = some (.bool true) := HM5.out.cell 5
        have hcx : W5.cell? ⟨ib, io + k, none⟩ = some (.int .u64 x) := by
          have h1 := HLS5.out.old.block ib HIB.out
          have h2 := HB.out.block ib HIB.out
          exact (World.cell?_of_block (h1.trans h2.symm)).trans HCX.out
        have hW2 : IntKind.u64.wrap (sum + x) = s2 := HW.out
        go_quiet (fail)
        go_wp2_with fail
        obtain ⟨⟨A', ⟨bm, g, hc⟩, e5, e3, e4⟩, _, hb5⟩ := HLS5.out
        refine ⟨⟨k + 1, s2, by omega, by go_num, rfl, ⟨⟨A', ⟨bm, g, hc.drewN nq⟩, e5, e3, e4⟩, HLO.out, below_drewN hb5 nq⟩, HZZ.out.z, below_drewN hb5 nq, HLO.out⟩, ?_⟩
        simp [intOf]
        omega
      · obtain rfl : k = n1 := by omega
        clear hlt hk
        go_upto_region 14 with (fail)
        go_wp2_with fail
        refine (m_image lo1 hi1 wr b A hI 0 0 sum HA3.out HA4.out HA5.out).mono ?_
        rintro e w5 ⟨vd, vo, vl, vh, vn, rfl, _, _, hS5⟩
        have HB5 := Lib.hid (HB.out.trans (hS5.below HLO.out HB.out.size))
        clear hS5
        have hf4 := img4 vd vo vl vh vn 0 0 sum w5
        go_wp2_with fail
        refine (CelA.l_awake _).mono ?_
        rintro e w6 ⟨rfl, hb6⟩
        have HB6 := Lib.hid (below_trans2 HB5.out hb6)
        clear hb6 HB5
        go_wp2
        go_ret
        exact ⟨rfl, .of_below HB6.out⟩

/-! The row's step. -/
set_option maxRecDepth 100000 in
theorem lifted (os : Os) (started : os.Started) (H : Type) (enc : TypeId × Value → H) :
    ReturnsInHanded {} Try.checked os 9 .any (Rows.cellsCountsSpec.pre6 enc Try.prog Try.f9 Rows.cellsCountsRow.domain false) (Rows.cellsCountsSpec.post enc Try.prog Try.f9 false true false false) := by
  refine returnsInHanded_of_change (C := Try.checked) own started (by kernel_rfl) Try.func9
    (ChangeSpec.witness6 (enc := enc) (C := Try.checked) false ⟨#[], #[.agg #[.int .i64 0, .int .i64 0, .int .i64 0, .int .i64 0, .int .i64 0], .slice none 0 0], []⟩ 8 (by kernel_rfl) (by kernel_rfl) (by kernel_rfl) (by kernel_rfl)) ?_
  intro W base args ds gs before hval0 hW hcnd _
  have hval : ∀ (j : Nat) t v, Try.f9.params[j]? = some t → args[j]? = some v → Value.okWide Try.prog W .any base t v := hval0
  have hW' := hW
  obtain ⟨p, q, hA0, hV, rfl, hfz, hnd⟩ := hW
  have hA : DataW.TrodAll enc Try.prog W 0 (fun _ => true) true Try.f9.params.toList args.toList ds p := hA0
  rw [Try.params9] at hA hval
  obtain ⟨v0, vs0, d0, ds0, p0, q0, hargs, rfl, rfl, h0, r0⟩ := trodAll_cons hA
  obtain ⟨v1, vs1, d1, ds1, p1, q1, rfl, rfl, rfl, h1, r1⟩ := trodAll_cons r0
  obtain ⟨rfl, rfl, rfl⟩ := trodAll_nil r1
  obtain rfl : args = #[v0, v1] := by cases args; simp_all
  obtain ⟨rfl, rfl⟩ := trodVars_none hV
  have hk : ∀ W', Kept W W' → Rows.cellsCountsSpec.post enc Try.prog Try.f9 false true false false W #[v0, v1] (.bool true) W' := fun W' hb =>
    post_law laidOut readable rfl Try.underlying4 rfl hW' rfl hb
  clear hA0 hval0 hA hW'
  obtain ⟨x0_0, x0_1, x0_2, x0_3, x0_4, rfl, wx0_0, wx0_1, wx0_2, wx0_3, wx0_4⟩ := LayO.open_arr5 (hval 0 28 v0 rfl rfl) h0
  obtain ⟨A1, n1, c1, z1, rfl, l1, m1, s1⟩ := open_slice Try.underlying40 Try.underlying25 cells25 (hval 1 40 v1 rfl rfl) h1
  refine (walk W x0_0 x0_1 x0_2 x0_3 x0_4 wx0_0 wx0_1 wx0_2 wx0_3 wx0_4 A1 n1 c1 z1 l1 m1 s1).mono fun e W' ⟨he, hg⟩ => ?_
  subst he
  exact ⟨_, rfl, hk W' hg⟩

theorem over : Rows.cellsCountsRow.holds Try.pinned (OpenSpec.ofChange Rows.cellsCountsSpec) :=
  OpenClaim.holds_of_wide 9 Try.f9 rfl rfl rfl rfl rfl rfl rfl ⟨rfl, rfl, rfl, rfl, rfl⟩ rfl rfl rfl rfl rfl (by kernel_rfl) Try.func9 (by kernel_rfl)
    (of_decide_eq_true (by kernel_rfl)) (by unfold Func.isWrapper; first | (rw [if_pos (by decide +kernel)]; kernel_rfl) | (rw [if_neg (by decide +kernel)]; exact ⟨rfl, rfl⟩))
    (fun os started H enc _ => lifted os started H enc)

/-- The statement. -/
theorem proved : Rows.CellsCountsSaid :=
  over
#print axioms proved
end Go.Proofs.Ytbedgdpcopghfaa.cellsCounts
