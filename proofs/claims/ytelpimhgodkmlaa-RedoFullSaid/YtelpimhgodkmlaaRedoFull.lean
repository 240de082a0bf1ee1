/-
  Proved: a full log refuses new addresses, and still takes new values for its own, without any other change. No condition.
-/
import Derived.Test.YtelpimhgodkmlaaRows
import Derived.WalkKit
import Derived.ProofKit
import Derived.OpenShut
import Derived.Test.YtelpimhgodkmlaaFrame
import Derived.Test.YtelpimhgodkmlaaRlF
import Derived.Deep.RegionHeld3
import Derived.Deep.RegionLaw
namespace Go.Proofs.Ytelpimhgodkmlaa.redoFull
open Go.ChangeShapes Go.WideShapes Go.ChangeAt Go.RowKit
open LawFrame
open Go.ChangeMaps (open_string)
set_option linter.unusedVariables false

theorem own : ownKnob Try.prog.godebug = none := by kernel_rfl
theorem laidOut : laidOutB Try.prog = true := by kernel_rfl

open PlainT BlkW CelS CelM CelV CelN LabD FreV FreI RsA RlU RlP RlA RlB RlC RlD RlE RlF
set_option maxHeartbeats 2000000
set_option maxRecDepth 100000
def tri (k : Nat) : List Int := (List.range k).map fun j : Nat => 3 * (j : Int)
theorem tri_len (k : Nat) : (tri k).length = k := by simp [tri]
theorem tri_not (k : Nat) : ¬ 3 * (k : Int) ∈ tri k := by
  simp [tri]
  intro x hx
  omega
theorem tri_add (k : Nat) : tri k ++ [3 * (k : Int)] = tri (k + 1) := by simp [tri, List.range_succ]
theorem tri_no (k : Nat) (p : Int) : ¬ 3 * p + 1 ∈ tri k := by
  simp [tri]
  intro x hx
  omega
theorem tri_zero {k : Nat} (h : 0 < k) : (tri k)[0]? = some 0 := by
  cases k with
  | zero => omega
  | succ k => simp [tri, List.range_succ_eq_map]

theorem readable : ∀ t ∈ Try.f6.params.toList, Try.prog.readableRec t = true ∧ t < Try.prog.types.size := by
  have h : (Try.f6.params.toList.all fun t => Try.prog.readableRec t && decide (t < Try.prog.types.size)) = true := by kernel_rfl
  intro t ht
  have := List.all_eq_true.1 h t ht
  simpa using this

/-! The walk. -/
theorem walk (w : World) (a0 : Int) (w0 : (Lit.int .i64 a0).wf = true) (a1 : Int) (w1 : (Lit.int .u64 a1).wf = true) (a2 : Int) (w2 : (Lit.int .i64 a2).wf = true) :
    Calls Try.prog 6 #[.int .i64 a0, .int .u64 a1, .int .i64 a2] w fun e w' => e = .returned (.bool true) ∧ Kept w w' := by
  obtain ⟨u, hu⟩ : ∃ u, pl a0 32 = u := ⟨_, rfl⟩
  have hin := pl_in a0 32 (by decide) (by decide)
  rw [hu] at hin
  have hpl := k_place a0 32 u (by decide) (by decide) hu
  obtain ⟨p, hp⟩ : ∃ p, pl a2 50 = p := ⟨_, rfl⟩
  have hin2 := pl_in a2 50 (by decide) (by decide)
  rw [hp] at hin2
  have hpl2 := k_place a2 50 p (by decide) (by decide) hp
  obtain ⟨n, hn⟩ : ∃ n : Nat, 1 + u = n := ⟨(1 + u).toNat, by omega⟩
  have hnw := a_new w n n (by omega)
  have hn0 : 0 < n := by omega
  have hn32 : n ≤ 32 := by omega
  clear hu hp
  go_enter Try.func6, Try.ntmps6
  go_upto_region 5 with (first
    | (go_at_call 11; (with_reducible refine (hpl _).mono ?_); rintro e w1 ⟨rfl, rfl⟩)
    | (go_at_call 9; refine hnw.mono ?_; rintro e w2 ⟨⟨g, va, vv, vi⟩, rfl, hS0, hB0⟩))
  have HS0 := Lib.hid hS0
  have HB0 := Lib.hid hB0
  clear hS0 hB0 hpl hnw hn
  go_wp2_with fail
  go_loopw [9] (fun kv wr => ∃ (k : Nat) (L : LV) (vs ix : List Int), k ≤ n ∧ kv = .int .i64 k ∧ LogIs wr w.heap.size TL n L (tri k) vs ix ∧ L.g = g ∧ Below w.heap.size w wr) (fun kv _ => n - (intOf kv).toNat)
  case atStart => exact ⟨0, _, _, _, by omega, rfl, HS0.out, rfl, HB0.out⟩
  case round =>
    clear HS0 HB0
    obtain ⟨k, L, vs, ix, hk, rfl, hs, hg, hb⟩ := hrel
    have HS := Lib.hid hs
    have HB := Lib.hid hb
    have hz := hb.size
    have HG := Lib.hid hg
    have hkI : (k : Int) ≤ 32 := by omega
    clear hs hb hg
    by_cases hlt : k < n
    · have hltI : (k : Int) < n := by omega
      have hpn := put_new (cap := n) (ad := tri k) (vs := vs) (ix := ix) (x := 3 * (k : Int)) (v := k) (by omega) (tri_not k) (by rw [tri_len]; exact hlt)
      have hc := a_put_to HS.out hz (3 * k) k true (tri (k + 1)) _ _ hpn.1 (by rw [hpn.2.1, tri_add]) rfl rfl
      rw [HG.out] at hc
      have hcv : IntKind.u64.wrap (k : Int) = k := Int.emod_eq_of_lt (by omega) (by show (k : Int) < 18446744073709551616; omega)
      clear hpn
      go_wp2_with (go_at_call 12; (with_reducible refine hc.mono ?_); rintro e w2 ⟨rfl, L1, hS1, hg1, hF1, _⟩)
      have HS1 := Lib.hid hS1
      have HB1 := Lib.hid (HB.out.trans (HS.out.step hz hF1))
      have HG1 := Lib.hid (hg1.trans HG.out)
      clear hS1 hF1 hc HS HB HG hg1
      go_roundw
      case rel => exact ⟨k + 1, L1, _, _, by omega, by go_num, HS1.out, HG1.out, HB1.out⟩
      case measure => simp [intOf]; omega
    · obtain rfl : k = n := by omega
      have hca := a_addrs _ _ _ _ _ _ _ HS.out
      rw [HG.out] at hca
      have hlv := HS.out.ok.lv
      rw [tri_len] at hlv
      have hnd := HS.out.ok.nd
      have HND := Lib.hid hnd
      have HLV := Lib.hid hlv
      clear hlt hk hlv hnd
      go_upto_region 12 with (first
        | (go_at_call 16; refine hca.mono ?_; rintro e w4 ⟨y, rfl, hy, hM, hBl⟩)
        | (go_at_call 11; (with_reducible refine (hpl2 _).mono ?_); rintro e w5 ⟨rfl, rfl⟩))
      have hS4 := HS.out.below hBl
      have hB4 := HB.out.trans (hBl.mono hz)
      have hny : ¬ Blks L y := fun c => by
        have := (HS.out.lt c).2
        omega
      have hst := put_stay (cap := k) (vs := vs) (ix := ix) (x := 3 * p + 1) (v := a1) HS.out.ok.nn (.inr ⟨tri_no k p, by rw [tri_len]; omega⟩)
      have hst2 := put_stay (cap := k) (vs := vs) (ix := ix) (x := -1) (v := a1) HS.out.ok.nn (.inl (by decide))
      have hin0 : (0 : Int) ∈ tri k := List.mem_of_getElem? (tri_zero hn0)
      have hha := put_has (cap := k) (vs := vs) (ix := ix) (x := 0) (v := a1) (by decide) hin0
      rw [idx_of HND.out (tri_zero hn0)] at hha
      have c1 := a_put_to hS4 hB4.size (3 * p + 1) a1 false (tri k) vs ix hst.1 hst.2.1 hst.2.2.1 hst.2.2.2
      rw [HG.out] at c1
      have HST := Lib.hid hst2
      have HHA := Lib.hid hha
      clear hst hst2 hha hca hin0
      go_upto_region 14 with (first
        | (go_at_call 12; (with_reducible refine c1.mono ?_); rintro e w6 ⟨rfl, L1, hS1, hg1, hF1, hb1⟩; have hB1 := hB4.trans (hS4.step hB4.size hF1); have c2 := a_put_to hS1 hB1.size (-1) a1 false (tri k) vs ix HST.out.1 HST.out.2.1 HST.out.2.2.1 HST.out.2.2.2; rw [hg1, HG.out] at c2)
        | (go_at_call 12; (with_reducible refine c2.mono ?_); rintro e w7 ⟨rfl, L2, hS2, hg2, hF2, hb2⟩; have hB2 := hB1.trans (hS1.step hB1.size hF2); have c3 := a_put_to hS2 hB2.size 0 a1 true (tri k) (vs.set 0 a1) ix HHA.out.1 HHA.out.2.1 HHA.out.2.2.1 HHA.out.2.2.2; rw [hg2, hg1, HG.out] at c3)
        | (go_at_call 12; (with_reducible refine c3.mono ?_); rintro e w8 ⟨rfl, L3, hS3, hg3, hF3, hb3⟩; have hB3 := hB2.trans (hS2.step hB2.size hF3); have c4 := a_len _ _ _ _ _ _ _ hS3.toLogR; have c5 := a_addrs _ _ _ _ _ _ _ hS3; rw [hg3, hg2, hg1, HG.out] at c4 c5; rw [tri_len] at c4)
        | (go_at_call 14; (with_reducible refine c4.mono ?_); rintro e w9 ⟨rfl, rfl⟩)
        | (go_at_call 16; (with_reducible refine c5.mono ?_); rintro e w10 ⟨y2, rfl, hy2, hM2, hBl2⟩
           have hs1 := put_side hF1 hb1 hny hM.lt
           have hM6 := Mem.of_eq hM hs1.1
           have hs2 := put_side hF2 hb2 hs1.2 hM6.lt
           have hM7 := Mem.of_eq hM6 hs2.1
           have hs3 := put_side hF3 hb3 hs2.2 hM7.lt
           have hM8 := Mem.of_eq hM7 hs3.1
           have c6 := k_ints _ _ _ (tri k) (rdi_mem hM2) (rdi_mem (hM8.below hBl2 hM8.lt)) (by rw [tri_len]; omega))
        | (go_at_call 15; (with_reducible refine c6.mono ?_); rintro e w11 ⟨rfl, hws⟩))
      have HW := Lib.hid hws
      have HS5 : Hid (LogIs w11 w.heap.size TL k L3 (tri k) (vs.set 0 a1) ix) := Lib.hid (by
        obtain ⟨nd, rfl⟩ := HW.out
        exact (hS3.below hBl2).drewN nd)
      have HB5 : Hid (Below w.heap.size w w11) := Lib.hid (by
        obtain ⟨nd, rfl⟩ := HW.out
        exact below_drewN (hB3.trans (hBl2.mono hB3.size)) nd)
      have HG5 : Hid (L3.g = g) := Lib.hid (by rw [hg3, hg2, hg1, HG.out])
      clear hws HW hS4 hB4 hny HS HB hM hBl hS1 hS2 hS3 hF1 hF2 hF3 hb1 hb2 hb3 hB1 hB2 hB3 hg1 hg2 hg3 c1 c2 c3 c4 c5 c6 hs1 hs2 hs3 hM6 hM7 hM8 hM2 hBl2 HST HHA
      have hg1 := a_get _ _ _ _ _ _ _ (3 * p + 1) HS5.out
      rw [HG5.out, show getV (tri k) (vs.set 0 a1) (3 * p + 1) = 0 from if_neg (tri_no k p), show getB (tri k) (3 * p + 1) = false from decide_eq_false (tri_no k p)] at hg1
      have hv0 : (vs.set 0 a1)[0]? = some a1 := by
        have := HLV.out
        rw [List.getElem?_set_self (by omega)]
      have hg2 : ∀ nd, Calls Try.prog 20 #[.pointer (some ⟨g, 0, none⟩), .int .i64 0] (w11.drewN nd) fun e w' => e = .returned (.tuple #[.int .u64 a1, .bool true]) ∧ Ws (w11.drewN nd) w' := fun nd => by
        have := a_get _ _ _ _ _ _ _ 0 (HS5.out.drewN nd)
        rw [HG5.out, show getV (tri k) (vs.set 0 a1) 0 = a1 by unfold getV; rw [if_pos (List.mem_of_getElem? (tri_zero hn0)), idx_of HND.out (tri_zero hn0), hv0]; rfl, show getB (tri k) 0 = true from decide_eq_true (List.mem_of_getElem? (tri_zero hn0))] at this
        exact this
      clear hv0
      go_wp2_with (first
        | (go_at_call 20; (with_reducible refine hg1.mono ?_); rintro e x1 ⟨rfl, n1, rfl⟩)
        | (go_at_call 20; (with_reducible refine (hg2 _).mono ?_); rintro e x2 ⟨rfl, n2, rfl⟩)
        | (go_at_call 8; refine (RlE.l_awake _).mono ?_; rintro e x9 ⟨rfl, hb9⟩))
      go_ret
      exact ⟨rfl, .of_below ((below_drewN HB5.out (n1 + n2)).trans (hb9.mono HB5.out.size))⟩

/-! The row's step. -/
set_option maxRecDepth 100000 in
theorem lifted (os : Os) (started : os.Started) (H : Type) (enc : TypeId × Value → H) :
    ReturnsInHanded {} Try.checked os 6 .any (Rows.redoFullSpec.pre6 enc Try.prog Try.f6 Rows.redoFullRow.domain false) (Rows.redoFullSpec.post enc Try.prog Try.f6 false true false false) := by
  refine returnsInHanded_of_change (C := Try.checked) own started (by kernel_rfl) Try.func6
    (ChangeSpec.witness6 (enc := enc) (C := Try.checked) false ⟨#[], #[.int .i64 0, .int .u64 0, .int .i64 0], []⟩ 8 (by kernel_rfl) (by kernel_rfl) (by kernel_rfl) (by kernel_rfl)) ?_
  intro W base args ds gs before hval0 hW hcnd _
  have hval : ∀ (j : Nat) t v, Try.f6.params[j]? = some t → args[j]? = some v → Value.okWide Try.prog W .any base t v := hval0
  have hW' := hW
  obtain ⟨p, q, hA0, hV, rfl, hfz, hnd⟩ := hW
  have hA : DataW.TrodAll enc Try.prog W 0 (fun _ => true) true Try.f6.params.toList args.toList ds p := hA0
  rw [Try.params6] at hA hval
  obtain ⟨v0, vs0, d0, ds0, p0, q0, hargs, rfl, rfl, h0, r0⟩ := trodAll_cons hA
  obtain ⟨v1, vs1, d1, ds1, p1, q1, rfl, rfl, rfl, h1, r1⟩ := trodAll_cons r0
  obtain ⟨v2, vs2, d2, ds2, p2, q2, rfl, rfl, rfl, h2, r2⟩ := trodAll_cons r1
  obtain ⟨rfl, rfl, rfl⟩ := trodAll_nil r2
  obtain rfl : args = #[v0, v1, v2] := by cases args; simp_all
  obtain ⟨rfl, rfl⟩ := trodVars_none hV
  have hk : ∀ W', Kept W W' → Rows.redoFullSpec.post enc Try.prog Try.f6 false true false false W #[v0, v1, v2] (.bool true) W' := fun W' hb =>
    post_law laidOut readable rfl Try.underlying4 rfl hW' rfl hb
  clear hA0 hval0 hA hW'
  obtain ⟨a0, rfl, rfl, rfl, w0⟩ := open_int Try.underlying3 (hval 0 3 v0 rfl rfl) h0
  obtain ⟨a1, rfl, rfl, rfl, w1⟩ := open_int Try.underlying28 (hval 1 28 v1 rfl rfl) h1
  obtain ⟨a2, rfl, rfl, rfl, w2⟩ := open_int Try.underlying3 (hval 2 3 v2 rfl rfl) h2
  refine (walk W a0 w0 a1 w1 a2 w2).mono fun e W' ⟨he, hg⟩ => ?_
  subst he
  exact ⟨_, rfl, hk W' hg⟩

theorem over : Rows.redoFullRow.holds Try.pinned (OpenSpec.ofChange Rows.redoFullSpec) :=
  OpenClaim.holds_of_wide 6 Try.f6 rfl rfl rfl rfl rfl rfl rfl ⟨rfl, rfl, rfl, rfl, rfl⟩ rfl rfl rfl rfl rfl (by kernel_rfl) Try.func6 (by kernel_rfl)
    (of_decide_eq_true (by kernel_rfl)) (by unfold Func.isWrapper; first | (rw [if_pos (by decide +kernel)]; kernel_rfl) | (rw [if_neg (by decide +kernel)]; exact ⟨rfl, rfl⟩))
    (fun os started H enc _ => lifted os started H enc)

/-- The statement. -/
theorem proved : Rows.RedoFullSaid :=
  over
#print axioms proved
end Go.Proofs.Ytelpimhgodkmlaa.redoFull
