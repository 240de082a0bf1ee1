/-
  Start of any valid configuration for any number of threads.
-/
import Derived.Test.YtpjbmbipkmpkhaaLabX
namespace Go.Proofs.Ytpjbmbipkmpkhaa.LabN
open Go.ChangeShapes Go.WideShapes Go.ChangeAt Go.RowKit
open PlainT BlkW LayS LayA LayH LayK LayP CelS CelM CelP CelV CelN CelO CelF CelG CelB LabD LabP LabX
set_option linter.unusedVariables false
set_option maxHeartbeats 1000000

/-- What Start returns. -/
def BegunN (w0 : World) (q : Cfg) (nt : Nat) (A : Int → List Int) (lo hi b rb : Nat) (w : World) : Prop :=
  (∃ n no : Nat, blkV q = n ∧ q.o = no ∧ A = A0 q n no nt (gen q.w.toNat)) ∧ Duo lo hi w b rb q A A ∧ w0.heap.size ≤ lo ∧ Below w0.heap.size w0 w
set_option maxRecDepth 100000 in
theorem l_startn (q : Cfg) (HMd : Hid (Valid q)) (nt : Nat) (t1 : 1 ≤ nt) (t2 : nt ≤ 16) (w : World) : Calls Try.prog 31 #[cfgV q, .int .i64 nt] w fun e w' => ∃ A lo hi b rb, e = .returned (.tuple #[pairV b rb, .bool true]) ∧ BegunN w q nt A lo hi b rb w' := by
  have HB2 := Lib.hid (below_new2 w (.cells (cells q) TC) (.cells #[.pointer none, .pointer none] TP))
  have HC := Lib.hid (Mem.alloc (Mem.new w TC (cells q)) (.cells #[.pointer none, .pointer none] TP))
  have HP := Lib.hid (mem_new1 w (.cells (cells q) TC) TP #[.pointer none, .pointer none])
  obtain ⟨m, hm⟩ : ∃ m : Nat, q.w = m := ⟨q.w.toNat, by have := HMd.out; unfold Valid at this; omega⟩
  have HMQ := Lib.hid hm
  have hm1 : m ≤ 64 := by have := HMd.out; unfold Valid at this; omega
  have hm0 : 1 ≤ m := by have := HMd.out; unfold Valid at this; omega
  clear hm
  go_enter Try.func31, Try.ntmps31
  go_upto_region 2 with (fail)
  obtain ⟨cb, hcb⟩ : ∃ cb, w.heap.size = cb := ⟨_, rfl⟩
  rw [hcb] at HC HP ⊢
  obtain ⟨W, hW⟩ : ∃ W, (w.alloc (.cells (cells q) TC)).alloc (.cells #[.pointer none, .pointer none] TP) = W := ⟨_, rfl⟩
  rw [hW] at HC HB2 HP
  first | rw [hW] | skip
  clear hW
  go_wp2_with fail
  go_loopw [6, 7] (fun sv iv wr => ∃ (i : Nat) (A : Option Addr) (c : Nat), i ≤ m ∧ iv = .int .i64 i ∧ sv = .slice A i c ∧ OwnU wr w.heap.size (.slice A i c) (gen i) ∧ Mem wr cb TC (cells q) ∧ Mem wr (cb + 1) TP #[.pointer none, .pointer none] ∧ Below w.heap.size w wr) (fun _ iv _ => m - (intOf iv).toNat)
  case atStart => exact ⟨0, none, 0, by omega, rfl, rfl, World.ownsRow_nil _ _ _ _, HC.out, HP.out, HB2.out⟩
  case round =>
    clear HC HB2 HP
    obtain ⟨i, A, c, hi, rfl, rfl, hown, hcf, hpf, hbel⟩ := hrel
    have HO := Lib.hid hown
    have HC := Lib.hid hcf
    have HP := Lib.hid hpf
    have HB := Lib.hid hbel
    clear hown hcf hbel hpf
    obtain ⟨d0, d1, d2, d3, d4, d5, d6, d7, d8, d9, d10, d11, d12⟩ := box_cells HC.out
    by_cases hlt : i < m
    · have hlq : (i : Int) < q.w := by rw [HMQ.out]; omega
      have hw1 : IntKind.i64.wrap (10 * (i : Int)) = 10 * i := IntWalk.i64_in _ (by omega)
      have hw2 : IntKind.i64.wrap (10 * (i : Int) + 1) = 10 * i + 1 := IntWalk.i64_in _ (by omega)
      have hw3 : IntKind.u64.wrap (10 * (i : Int) + 1) = 10 * i + 1 := IntWalk.u64_in _ (by omega)
      obtain ⟨A2, c2, w2, hrun, hown2, hbel2, hfar2, _⟩ := push_u HB.out.size HO.out (by rw [gen_len]; omega) (10 * (i : Int) + 1)
      rw [gen_len] at hrun hown2
      have HO2 := Lib.hid hown2
      have HB3 := Lib.hid (HB.out.trans hbel2)
      have HC2 := Lib.hid ((hfar2 cb HC.out.lt (own_ne_mem HO.out HC.out (by decide))).trans HC.out)
      have HP2 := Lib.hid ((hfar2 (cb + 1) HP.out.lt (own_ne_mem HO.out HP.out (by decide))).trans HP.out)
      clear hown2 hbel2 hfar2
      go_wp2_with (at_builtin; refine wpList_append_run rfl _ _ _ rfl hrun (by rfl) (by rfl) ?_)
      go_roundw
      case rel => exact ⟨i + 1, A2, c2, by have h := hlq; rw [HMQ.out] at h; omega, by go_num, rfl, by rw [gen_step]; exact HO2.out, HC2.out, HP2.out, HB3.out⟩
      case measure => simp [intOf]; omega
    · obtain rfl : i = m := by omega
      have hge : q.w ≤ (i : Int) := Int.le_of_eq HMQ.out
      obtain ⟨hsrc, hsb⟩ := own_src HO.out (by rw [gen_len]; omega)
      clear hlt hi
      have HSrc := Lib.hid hsrc
      have HSb := Lib.hid hsb
      clear hsrc hsb
      have HV := HMd.out
      obtain ⟨n, hn⟩ : ∃ n : Nat, blkV q = n := ⟨(blkV q).toNat, by have := blk_in q; omega⟩
      obtain ⟨no, hno⟩ : ∃ no : Nat, q.o = no := ⟨q.o.toNat, by have := HMd.out; unfold Valid at this; omega⟩
      have hnew : Calls Try.prog 65 #[cfgV q, .int .i64 nt, .slice A i c] wr _ := a_new q HV n no nt hn hno t1 t2 wr (.slice A i c) (gen i) HSrc.out (by rw [gen_len]; exact HMQ.out.symm) HSb.out
      have HN := Lib.hid hn
      have HNO := Lib.hid hno
      have HVV := Lib.hid HV
      clear HV hn hno
      go_upto_region 7 with (go_at_call 65; refine hnew.mono ?_; rintro e w4 ⟨b, rfl, hI, hB4⟩)
      have HI := Lib.hid hI
      have HB4 := Lib.hid hB4
      have HC4 := Lib.hid (HC.out.below hB4 HC.out.lt)
      have HP4 := Lib.hid (HP.out.below hB4 HP.out.lt)
      have hS4 : Src w4 (.slice A i c) (gen i) := HSrc.out.of_blocks fun g hg => hB4.block g (HSb.out g hg)
      have href : Calls Try.prog 69 #[cfgV q, .int .i64 nt, .slice A i c] w4 _ := r_new q HVV.out n no nt HN.out HNO.out t2 w4 (.slice A i c) (gen i) hS4 (by rw [gen_len]; exact HMQ.out.symm) (fun g hg => Nat.lt_of_lt_of_le (HSb.out g hg) hB4.size)
      have hcw := HP.out.lt
      clear hI hB4 hS4 hnew hge d0 d1 d2 d3 d4 d5 d6 d7 d8 d9 d10 d11 d12
      obtain ⟨d0, d1, d2, d3, d4, d5, d6, d7, d8, d9, d10, d11, d12⟩ := box_cells HC4.out
      go_wp2_with (go_at_call 69; refine href.mono ?_; rintro e w5 ⟨rb, rfl, hR, hB5⟩; have HR := Lib.hid hR; have HB5 := Lib.hid hB5; have MP := HP4.out.below hB5 HP4.out.lt; have p0 := Mem.cell MP 0; have p1 := Mem.cell MP 1; have pf := Mem.frozen MP; clear hR hB5)
      have MP : Mem w5 (cb + 1) TP #[.pointer none, .pointer none] := HP4.out.below HB5.out HP4.out.lt
      have hgi : gen q.w.toNat = gen i := by rw [HMQ.out]; rfl
      have MQ := (MP.set_ 0 (.pointer (some ⟨b, 0, none⟩))).set_ 1 (.pointer (some ⟨rb, 0, none⟩))
      have e0 := MQ.cell 0
      have e1 := MQ.cell 1
      simp at e0 e1
      have HD : Duo wr.heap.size w5.heap.size w5 b rb q (A0 q n no nt (gen q.w.toNat)) (A0 q n no nt (gen q.w.toNat)) := ⟨_, _, by rw [hgi]; exact HI.out.below HB5.out, by rw [hgi]; exact HR.out, Nat.le_refl _, A0_out q n no nt _⟩
      have HBF := below_trans2 (below_trans2 HB.out HB4.out) HB5.out
      refine bodyPost_ret (v := .tuple #[pairV b rb, .bool true]) ((results_cell_tmp rfl _ _ _).trans (by simp [go_sem, e0, e1])) rfl ⟨_, _, _, b, rb, rfl, ⟨n, no, HN.out, HNO.out, rfl⟩, (HD.set_ ⟨cb + 1, 0, none⟩ (.inl hcw) _).set_ ⟨cb + 1, 1, none⟩ (.inl hcw) _, HB.out.size, (HBF.setCell (by show w.heap.size ≤ cb + 1; omega) _).setCell (by show w.heap.size ≤ cb + 1; omega) _⟩
theorem Lb.begunN {w0 w : World} {q : Cfg} {nt : Nat} {A : Int → List Int} {lo hi b rb : Nat} (h : BegunN w0 q nt A lo hi b rb w) : Lb w0 lo hi b rb q A A [] w :=
  ⟨h.2.1, fun _ he => absurd he (List.not_mem_nil), List.nodup_nil, h.2.2.2, h.2.2.1, duo_le h.2.1⟩
end Go.Proofs.Ytpjbmbipkmpkhaa.LabN
