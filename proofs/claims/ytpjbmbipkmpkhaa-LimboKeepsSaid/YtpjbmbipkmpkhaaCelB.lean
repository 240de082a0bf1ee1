/-
  Contract of the statements' own function: start.
-/
import Derived.Test.YtpjbmbipkmpkhaaCelA
import Derived.Test.YtpjbmbipkmpkhaaCelG
import Derived.Test.YtpjbmbipkmpkhaaLayP
import Derived.OwnWalk
namespace Go.Proofs.Ytpjbmbipkmpkhaa.CelB
open Go.ChangeShapes Go.WideShapes Go.ChangeAt Go.RowKit
open PlainT BlkW LayS LayA LayH LayK LayP CelS CelM CelP CelV CelN CelO CelF CelG
set_option linter.unusedVariables false
set_option maxHeartbeats 1000000

/-- The first words. -/
def gen (i : Nat) : List Int := (List.range i).map fun j : Nat => 10 * (j : Int) + 1
theorem gen_len (i : Nat) : (gen i).length = i := by simp [gen]
theorem gen_step (i : Nat) : gen (i + 1) = gen i ++ [10 * (i : Int) + 1] := by simp [gen, List.range_succ]
theorem own_src {w : World} {B : Nat} {v : Value} {xs : List Int} (h : OwnU w B v xs) (h0 : 0 < xs.length) : Src w v xs ∧ ∀ g, v.ownBlock = some g → g < w.heap.size := by
  obtain ⟨g, cap, cur, rfl, hB, hh, hlt, hc⟩ := own_cells h h0
  refine ⟨⟨g, 0, cap, rfl, fun j x hj => ?_⟩, fun g' hg' => by simp [Value.ownBlock] at hg'; omega⟩
  have hjl : j < xs.length := (List.getElem?_eq_some_iff.1 hj).1
  have := hc j (by omega)
  rw [Nat.zero_add, this]
  simp [us, hj]
/-- What start returns. -/
structure Start (w0 : World) (q : Cfg) (n no nt : Nat) (lo1 hi1 lo2 hi2 b rb : Nat) (w : World) : Prop where
  made : Made q
  blk : blkV q = n
  orc : q.o = no
  m : Hid (q.w = ((gen q.w.toNat).length : Nat))
  t1 : 1 ≤ nt
  t2 : nt ≤ 4
  mem : Is lo1 hi1 w b (A0 q n no nt (gen q.w.toNat))
  ref : RefIs lo2 hi2 w rb q (A0 q n no nt (gen q.w.toNat))
  lo : w0.heap.size ≤ lo1
  mid : hi1 ≤ lo2
  old : Below w0.heap.size w0 w
set_option maxRecDepth 100000 in
theorem l_start (x0 x1 x2 x3 x4 t : Int) (w : World) : Calls Try.prog 11 #[.agg #[.int .i64 x0, .int .i64 x1, .int .i64 x2, .int .i64 x3, .int .i64 x4], .int .i64 t] w fun e w' => ∃ q n no nt lo1 hi1 lo2 hi2 b rb, e = .returned (.tuple #[.pointer (some ⟨b, 0, none⟩), .pointer (some ⟨rb, 0, none⟩), .bool true]) ∧ Start w q n no nt lo1 hi1 lo2 hi2 b rb w' := by
  have HB0 := Lib.hid (below_new w (.cells #[.int .i64 x0, .int .i64 x1, .int .i64 x2, .int .i64 x3, .int .i64 x4] 22))
  go_enter Try.func11, Try.ntmps11
  go_upto_region 2 with (go_at_call 68; refine (l_config _ _ _ _ _ _).mono ?_; rintro e w1 ⟨q, rfl, hmade, hb1⟩)
  have HB1 := Lib.hid (below_trans2 HB0.out hb1)
  have HM := Lib.hid hmade
  have HC := Lib.hid (Mem.new w1 TC (cells q))
  have HB2 := Lib.hid (HB1.out.alloc HB1.out.size (.cells (cells q) TC))
  obtain ⟨cb, hcb⟩ : ∃ cb, w1.heap.size = cb := ⟨_, rfl⟩
  have hcl : w.heap.size ≤ cb := by rw [← hcb]; exact HB1.out.size
  rw [hcb] at HC ⊢
  obtain ⟨W, hW⟩ : ∃ W, w1.alloc (.cells (cells q) TC) = W := ⟨_, rfl⟩
  rw [hW] at HC HB2 ⊢
  clear hb1 hmade HB0 HB1 hcb hW
  go_wp2_with fail
  obtain ⟨m, hm⟩ : ∃ m : Nat, q.w = m := ⟨q.w.toNat, by have := HM.out; unfold Made at this; omega⟩
  have HMQ := Lib.hid hm
  have hm1 : m ≤ 12 := by have := HM.out; unfold Made at this; omega
  have hm0 : 4 ≤ m := by have := HM.out; unfold Made at this; omega
  clear hm
  go_loopw [8, 9] (fun sv iv wr => ∃ (i : Nat) (A : Option Addr) (c : Nat), i ≤ m ∧ iv = .int .i64 i ∧ sv = .slice A i c ∧ OwnU wr w.heap.size (.slice A i c) (gen i) ∧ Mem wr cb TC (cells q) ∧ Below w.heap.size w wr) (fun _ iv _ => m - (intOf iv).toNat)
  case atStart => exact ⟨0, none, 0, by omega, rfl, rfl, World.ownsRow_nil _ _ _ _, HC.out, HB2.out⟩
  case round =>
    clear HC HB2
    obtain ⟨i, A, c, hi, rfl, rfl, hown, hcf, hbel⟩ := hrel
    have HO := Lib.hid hown
    have HC := Lib.hid hcf
    have HB := Lib.hid hbel
    clear hown hcf hbel
    obtain ⟨d0, d1, d2, d3, d4, d5, d6, d7, d8, d9, d10, d11, d12⟩ := box_cells HC.out
    by_cases hlt : i < m
    · have hlq : (i : Int) < q.w := by rw [HMQ.out]; omega
      have hw1 : IntKind.i64.wrap (10 * (i : Int)) = 10 * i := IntWalk.i64_in _ (by omega)
      have hw2 : IntKind.i64.wrap (10 * (i : Int) + 1) = 10 * i + 1 := IntWalk.i64_in _ (by omega)
      have hw3 : IntKind.u64.wrap (10 * (i : Int) + 1) = 10 * i + 1 := IntWalk.u64_in _ (by omega)
      obtain ⟨A2, c2, w2, hrun, hown2, hbel2, hfar2, _⟩ := push_u HB.out.size HO.out (by rw [gen_len]; omega) (10 * (i : Int) + 1)
      rw [gen_len] at hrun hown2
      have HO2 := Lib.hid hown2
      have HB3 := Lib.hid (HB.out.trans hbel2)
      have HC2 := Lib.hid ((hfar2 cb HC.out.lt (own_ne_mem HO.out HC.out (by decide))).trans HC.out)
      clear hown2 hbel2 hfar2
      go_wp2_with (at_builtin; refine wpList_append_run rfl _ _ _ rfl hrun (by rfl) (by rfl) ?_)
      go_roundw
      case rel => exact ⟨i + 1, A2, c2, by have h := hlq; rw [HMQ.out] at h; omega, by go_num, rfl, by rw [gen_step]; exact HO2.out, HC2.out, HB3.out⟩
      case measure => simp [intOf]; omega
    · obtain rfl : i = m := by omega
      have hge : q.w ≤ (i : Int) := Int.le_of_eq HMQ.out
      obtain ⟨hsrc, hsb⟩ := own_src HO.out (by rw [gen_len]; omega)
      clear hlt hi
      have HSrc := Lib.hid hsrc
      have HSb := Lib.hid hsb
      clear hsrc hsb
      go_upto_region 8 with (go_at_call 12; refine (k_place_ex _ _ (by omega) (by omega) _).mono ?_; rintro e w3 ⟨p, p0, p1, rfl, rfl⟩)
      obtain ⟨nt, hnt⟩ : ∃ nt : Nat, 1 + p = nt := ⟨(1 + p).toNat, by omega⟩
      have HV := made_valid HM.out
      obtain ⟨n, hn⟩ : ∃ n : Nat, blkV q = n := ⟨(blkV q).toNat, by have := blk_in q; omega⟩
      obtain ⟨no, hno⟩ : ∃ no : Nat, q.o = no := ⟨q.o.toNat, by have := HM.out; unfold Made at this; omega⟩
      have hn1 : 1 ≤ nt := by omega
      have hn4 : nt ≤ 4 := by omega
      have hnew := a_new q HV n no nt hn hno hn1 (by omega) wr (.slice A i c) (gen i) HSrc.out (by rw [gen_len]; exact HMQ.out.symm) HSb.out
      rw [hnt]
      have HN := Lib.hid hn
      have HNO := Lib.hid hno
      have HVV := Lib.hid HV
      clear hnt p0 p1 HV hn hno hge
      go_upto_region 9 with (go_at_call 65; refine hnew.mono ?_; rintro e w4 ⟨b, rfl, hI, hB4⟩)
      have HI := Lib.hid hI
      have HB4 := Lib.hid hB4
      have HC4 := Lib.hid (HC.out.below hB4 HC.out.lt)
      have hS4 : Src w4 (.slice A i c) (gen i) := HSrc.out.of_blocks fun g hg => hB4.block g (HSb.out g hg)
      have href := r_new q HVV.out n no nt HN.out HNO.out (by omega) w4 (.slice A i c) (gen i) hS4 (by rw [gen_len]; exact HMQ.out.symm) (fun g hg => Nat.lt_of_lt_of_le (HSb.out g hg) hB4.size)
      clear hI hB4 hS4 hnew d0 d1 d2 d3 d4 d5 d6 d7 d8 d9 d10 d11 d12
      obtain ⟨d0, d1, d2, d3, d4, d5, d6, d7, d8, d9, d10, d11, d12⟩ := box_cells HC4.out
      go_wp2_with (go_at_call 69; refine href.mono ?_; rintro e w5 ⟨rb, rfl, hR, hB5⟩; have HR := Lib.hid hR; have HB5 := Lib.hid hB5; clear hR hB5)
      have hgi : gen q.w.toNat = gen i := by rw [HMQ.out]; rfl
      refine bodyPost_ret (v := .tuple #[.pointer (some ⟨b, 0, none⟩), .pointer (some ⟨rb, 0, none⟩), .bool true]) ((results_tmp3 rfl _ _ _).trans rfl) rfl ⟨q, n, no, nt, _, _, _, _, b, rb, rfl, HM.out, HN.out, HNO.out, Lib.hid (by rw [hgi, gen_len]; exact HMQ.out), hn1, hn4, by rw [hgi]; exact HI.out.below HB5.out, by rw [hgi]; exact HR.out, HB.out.size, Nat.le_refl _, below_trans2 (below_trans2 HB.out HB4.out) HB5.out⟩
end Go.Proofs.Ytpjbmbipkmpkhaa.CelB
