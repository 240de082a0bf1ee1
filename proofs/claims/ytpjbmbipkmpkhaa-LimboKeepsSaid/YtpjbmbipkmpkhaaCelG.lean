/-
  Contract of the reference of layer 8: New, walked.
-/
import Derived.Test.YtpjbmbipkmpkhaaCelF
namespace Go.Proofs.Ytpjbmbipkmpkhaa.CelG
open Go.ChangeShapes Go.WideShapes Go.ChangeAt Go.RowKit
open PlainT BlkW LayS LayA LayC LayD LayF LayH CelS CelM CelV CelL CelN CelF
set_option linter.unusedVariables false
set_option maxHeartbeats 1000000

set_option maxRecDepth 100000 in
theorem r_new (q : Cfg) (hv : Valid q) (n no nt : Nat) (hn : blkV q = n) (hno : q.o = no) (t2 : nt ≤ 16) (w : World) (v : Value) (xs : List Int) (hs : Src w v xs) (hl : (xs.length : Int) = q.w) (hvb : ∀ g, v.ownBlock = some g → g < w.heap.size) :
    Calls Try.prog 69 #[cfgV q, .int .i64 nt, v] w fun e w' => ∃ rb, e = .returned (.pointer (some ⟨rb, 0, none⟩)) ∧ RefIs w.heap.size w'.heap.size w' rb q (A0 q n no nt xs) ∧ Below w.heap.size w w' := by
  have HV := Lib.hid hv
  have HN := Lib.hid hn
  have HNO := Lib.hid hno
  have HL := Lib.hid hl
  have HS4 := Lib.hid ((blk_of hv).symm.trans hn)
  have hbl := r_blocks q
  rw [hn] at hbl
  have n64 : n ≤ 64 := by have := (blk_in q).2; omega
  have w64 : q.w ≤ 64 := by unfold Valid at hv; omega
  have w0 : 1 ≤ q.w := by unfold Valid at hv; omega
  have hbuild := build_ref q
  obtain ⟨sg, so, cap, rfl, hsc⟩ := hs
  have hvb := hvb sg rfl
  have HM := Lib.hid (Mem.new w TC (cells q))
  have HB := Lib.hid (below_new w (.cells (cells q) TC))
  clear hv hn hno hl
  go_enter Try.func69, Try.ntmps69
  go_upto_region 3 with (go_at_call 89; (with_reducible refine (hbl _).mono ?_); rintro e w2 ⟨rfl, hb2⟩; have HB2 := Lib.hid (HB.out.trans (hb2.mono (by rw [size_new]; omega))); have HM2 := Lib.hid (HM.out.below hb2 HM.out.lt); clear hb2; obtain ⟨d0, d1, d2, d3, d4, d5, d6, d7, d8, d9, d10, d11, d12⟩ := box_cells HM2.out)
  have HR := Lib.hid (R.new w2 HB2.out.size q)
  have HC := Lib.hid (HM2.out.alloc (.cells (boxV q 0 0 0 fun _ => nilS) TRef))
  have HB3 := Lib.hid (HB2.out.alloc HB2.out.size (.cells (boxV q 0 0 0 fun _ => nilS) TRef))
  obtain ⟨rb, hrb⟩ : ∃ rb, w2.heap.size = rb := ⟨_, rfl⟩
  have HLR := HM2.out.lt
  rw [hrb] at HR HLR ⊢
  clear d0 d1 d2 d3 d4 d5 d6 d7 d8 d9 d10 d11 d12 hrb HM HB HM2 HB2 hbuild
  obtain ⟨m, hm⟩ : ∃ m, xs.length = m := ⟨_, rfl⟩
  have HMQ : Hid (q.w = m) := Lib.hid (by rw [← hm]; exact HL.out.symm)
  rw [hm]
  have HXM := Lib.hid hm
  clear hm
  go_wp2_with fail
  go_loopw [9] (fun iv wr => ∃ (i : Nat) (V : Nat → Value) (X : Nat → List Int), i ≤ m ∧ iv = .int .i64 i ∧ Mem wr w.heap.size TC (cells q) ∧ R w.heap.size rb q 0 0 0 V X wr ∧ X 0 = xs.take i ∧ (∀ k, k ≠ 0 → X k = []) ∧ Below w.heap.size w wr) (fun iv _ => m - (intOf iv).toNat)
  case atStart => exact ⟨0, _, _, by omega, rfl, HC.out, HR.out, rfl, fun _ _ => rfl, HB3.out⟩
  case round =>
    obtain ⟨i, V, X, hi, rfl, hc, hr, hX0, hXk, hb⟩ := hrel
    clear HC HR HB3
    have HC := Lib.hid hc
    have HR := Lib.hid hr
    have HB := Lib.hid hb
    clear hc hr hb
    obtain ⟨d0, d1, d2, d3, d4, d5, d6, d7, d8, d9, d10, d11, d12⟩ := box_cells HC.out
    by_cases hlt : i < m
    · have hlq : (i : Int) < q.w := by rw [HMQ.out]; omega
      obtain ⟨x, hx⟩ : ∃ x, xs[i]? = some x := ⟨_, List.getElem?_eq_getElem (by rw [HXM.out]; omega)⟩
      have hcx : wr.cell? ⟨sg, so + i, none⟩ = some (.int .u64 x) := (World.cell?_of_block (HB.out.block sg hvb)).trans (hsc i x hx)
      have hbc := HR.out.bx.cell 13
      have hlX : (X 0).length = i := by rw [hX0, List.length_take, HXM.out]; omega
      obtain ⟨A, cp, w1, hrun, hcell, hfro, hbel, hfar, hR1⟩ := R.push (HR.out.drewN 1) (k := 0) (by decide) (by omega) HB.out.size x
      go_upto_region 6 with (fail)
      clear d0 d1 d2 d3 d4 d5 d6 d7 d8 d9 d10 d11 d12
      have hlti : (i : Int) < m := by omega
      have hrun' : (Builtin.append_ #[TR, TR] TR #[V 0, .slice (some ⟨wr.heap.size, 0, none⟩) 1 1]).run Try.prog (wr.alloc (.cells #[.int .u64 x] TU)).drew = .ok (.slice A ((X 0).length + 1) cp) w1 := hrun
      have hbc' : wr.cell? ⟨rb, 13, none⟩ = some (V 0) := hbc
      have hcell' : w1.cell? ⟨rb, 13, none⟩ = some (V 0) := hcell
      have hfro' : w1.frozen? ⟨rb, 13, none⟩ = false := hfro
      have hrb := HR.out.bx.lt
      have hsg : sg < wr.heap.size := Nat.lt_of_lt_of_le hvb HB.out.size
      rw [hlX] at hrun' hR1
      obtain ⟨vd, hvd⟩ : ∃ vd, V 0 = vd := ⟨_, rfl⟩
      rw [hvd] at hrun' hbc' hcell'
      clear hrun hbc hcell hfro hvd
      have HR1 := Lib.hid hR1
      have HBl := Lib.hid hbel
      have HFr := Lib.hid hfar
      clear hR1 hbel hfar
      go_region_law ((refine step_append_run rfl _ _ TR rfl _ _ _ _ rfl rfl hrun' ?_))
      all_goals
        go_wp2_with fail
        go_roundw
        case rel =>
          refine ⟨i + 1, _, _, by omega, by go_num, ?_, HR1.out, ?_, ?_, ?_⟩
          · exact Mem.far ((HFr.out w.heap.size HC.out.lt (own_ne_mem (HR.out.own 0 (by decide)) HC.out (by decide))).trans HC.out) (a := ⟨rb, pos 0, none⟩) (by show w.heap.size ≠ rb; omega) _
          · rw [up_self, hX0, List.take_add_one, hx]
            rfl
          · intro k hk
            rw [up_ne _ _ hk]
            exact hXk k hk
          · exact ((below_drewN HB.out 1).trans HBl.out).setCell (show w.heap.size ≤ rb by omega) _
        case measure => simp [intOf]; omega
    · obtain rfl : i = m := by omega
      have hX0' : X 0 = xs := by rw [hX0, ← HXM.out, List.take_length]
      have hge : q.w ≤ (i : Int) := by rw [HMQ.out]; omega
      have HX0 := Lib.hid hX0'
      have HXk := Lib.hid hXk
      clear hX0 hXk hX0' hi hlt
      go_wp2_with fail
      have HS0 : Hid (St w rb q V X wr) := Lib.hid ⟨HC.out, HR.out, HLR, HB.out⟩
      clear HC HR HB d0 d1 d2 d3 d4 d5 d6 d7 d8 d9 d10 d11 d12 hge
      have h64i : i ≤ 64 := by have := HMQ.out; omega
      go_loopw [10] (fun jv wr => ∃ (j : Nat) (V : Nat → Value) (X : Nat → List Int), j ≤ n ∧ jv = .int .i64 j ∧ St w rb q V X wr ∧ X 0 = xs ++ List.replicate j 0 ∧ X 4 = nxA q j ∧ (∀ k, k ≠ 0 → k ≠ 4 → X k = [])) (fun jv _ => n - (intOf jv).toNat)
      case atStart => exact ⟨0, V, X, by omega, rfl, HS0.out, by rw [HX0.out]; simp, HXk.out 4 (by decide), fun k hk _ => HXk.out k hk⟩
      case round =>
        clear HS0 HX0 HXk
        obtain ⟨j, V, X, hj, rfl, hst, hX0, hX4, hXk⟩ := hrel
        have HST := Lib.hid hst
        have HX0 := Lib.hid hX0
        have HX4 := Lib.hid hX4
        have HXk := Lib.hid hXk
        clear hst hX0 hX4 hXk
        by_cases hlt : j < n
        · have hlj : (j : Int) < n := by omega
          have hl0 : (X 0).length = i + j := by rw [HX0.out, List.length_append, List.length_replicate, HXM.out]
          obtain ⟨A, cp, w1, hrun, hb13, hc13, hf13, hst1⟩ := HST.out.push (k := 0) (by decide) (by omega) 0
          have hrb := HST.out.r.bx.lt
          have HS1 := Lib.hid hst1
          have hb13' : wr.cell? ⟨rb, 13, none⟩ = some (V 0) := hb13
          have hc13' : w1.cell? ⟨rb, 13, none⟩ = some (V 0) := hc13
          have hf13' : w1.frozen? ⟨rb, 13, none⟩ = false := hf13
          obtain ⟨vd, hvd⟩ : ∃ vd, V 0 = vd := ⟨_, rfl⟩
          rw [hvd] at hrun hb13' hc13'
          rw [hl0] at hrun HS1
          have HL0 := Lib.hid hl0
          clear hst1 hb13 hc13 hf13 hvd hl0
          go_upto_region 11 with (at_builtin; refine wpList_append_run rfl _ _ _ rfl hrun (by rfl) (by rfl) ?_)
          obtain ⟨W1, hW1⟩ : ∃ W1, w1.setCell ⟨rb, 13, none⟩ (.slice A (i + j + 1) cp) = W1 := ⟨_, rfl⟩
          have HST1 : Hid (St w rb q (up V 0 (.slice A (i + j + 1) cp)) (up X 0 (X 0 ++ [0])) W1) := Lib.hid (hW1 ▸ HS1.out)
          rw [hW1]
          clear hW1 HS1 hrun hb13' hc13' hf13'
          have hq : HQ W1 w.heap.size q W1 := ⟨HST1.out.cfg, Below.refl _ _⟩
          have hc1 : ∀ w, Calls Try.prog 33 #[cfgV q, .int .i64 (j + 1)] w fun e w' => e = .returned (.int .i64 (clsV q (j + 1))) ∧ Below w.heap.size w w' := r_class q (j + 1)
          have hc2 : ∀ w, Calls Try.prog 33 #[cfgV q, .int .i64 j] w fun e w' => e = .returned (.int .i64 (clsV q j)) ∧ Below w.heap.size w w' := r_class q j
          have HNV : Hid (nxv q j = if clsV q ((j : Int) + 1) = clsV q j then (j : Int) + 2 else 0) := Lib.hid rfl
          obtain ⟨c1, hcc1⟩ : ∃ c1, clsV q ((j : Int) + 1) = c1 := ⟨_, rfl⟩
          obtain ⟨c2, hcc2⟩ : ∃ c2, clsV q (j : Int) = c2 := ⟨_, rfl⟩
          rw [hcc1] at hc1 HNV
          rw [hcc2] at hc2 HNV
          have hw1 : IntKind.i64.wrap ((j : Int) + 1) = j + 1 := IntWalk.i64_in _ (by omega)
          go_upto_region 12 with fail
          by_cases hl1 : (j : Int) + 1 < n
          · clear hcc1 hcc2
            go_region_held3 (HeldQ W1 w.heap.size q) (first | exact heldq_drew hq | exact heldq_keep (by assumption) (by assumption)) (first | (go_at_call 33; (with_reducible refine (hc1 _).mono ?_); rintro e w3 ⟨rfl, hb3⟩) | (go_at_call 33; (with_reducible refine (hc2 _).mono ?_); rintro e w4 ⟨rfl, hb4⟩))
            rename_i hH
            have HST3 : Hid (St w rb q (up V 0 (.slice A (i + j + 1) cp)) (up X 0 (X 0 ++ [0])) w4) := Lib.hid (HST1.out.below (heldq_hq hH).2)
            clear hH hb3 hb4 hq hc1 hc2 HST1
            by_cases he : c1 = c2
            · subst he
              have HNX : Hid (nxv q j = (j : Int) + 2) := Lib.hid (HNV.out.trans (if_pos rfl))
              have hw2 : IntKind.i64.wrap ((j : Int) + 2) = j + 2 := IntWalk.i64_in _ (by omega)
              have hw3 : IntKind.u64.wrap ((j : Int) + 2) = j + 2 := IntWalk.u64_in _ (by omega)
              clear HNV
              have hst3 := HST3.out
              have hl4 : (up X 0 (X 0 ++ [0]) 4).length = j := by rw [up_ne _ _ (by decide), HX4.out, nxA_len]
              obtain ⟨A4, cp4, w5, hrun4, hb20, hc20, hf20, hst5⟩ := hst3.push (k := 4) (by decide) (by omega) ((j : Int) + 2)
              have hrb3 := hst3.r.bx.lt
              have HS5 := Lib.hid hst5
              have hb20' : w4.cell? ⟨rb, 20, none⟩ = some (up V 0 (.slice A (i + j + 1) cp) 4) := hb20
              have hc20' : w5.cell? ⟨rb, 20, none⟩ = some (up V 0 (.slice A (i + j + 1) cp) 4) := hc20
              have hf20' : w5.frozen? ⟨rb, 20, none⟩ = false := hf20
              obtain ⟨v4, hv4⟩ : ∃ v4, up V 0 (.slice A (i + j + 1) cp) 4 = v4 := ⟨_, rfl⟩
              rw [hv4] at hrun4 hb20' hc20'
              rw [hl4] at hrun4 HS5
              clear hst3 hst5 hb20 hc20 hf20 hv4 hl4
              go_wp2_with (at_builtin; refine wpList_append_run rfl _ _ _ rfl hrun4 (by rfl) (by rfl) ?_)
              go_roundw
              case rel =>
                refine ⟨j + 1, _, _, by omega, by go_num, HS5.out, ?_, ?_, ?_⟩
                · rw [up_ne _ _ (by decide), up_self, HX0.out, List.append_assoc, List.replicate_succ']
                · rw [up_self, up_ne _ _ (by decide), HX4.out, nxA_step, HNX.out]
                · intro k hk0 hk4
                  rw [up_ne _ _ hk4, up_ne _ _ hk0]
                  exact HXk.out k hk0 hk4
              case measure => simp [intOf]; omega
            · have heb : (c1 == c2) = false := by simpa using he
              have HNX : Hid (nxv q j = 0) := Lib.hid (HNV.out.trans (if_neg he))
              clear HNV he
              have hst3 := HST3.out
              have hl4 : (up X 0 (X 0 ++ [0]) 4).length = j := by rw [up_ne _ _ (by decide), HX4.out, nxA_len]
              obtain ⟨A4, cp4, w5, hrun4, hb20, hc20, hf20, hst5⟩ := hst3.push (k := 4) (by decide) (by omega) (0)
              have hrb3 := hst3.r.bx.lt
              have HS5 := Lib.hid hst5
              have hb20' : w4.cell? ⟨rb, 20, none⟩ = some (up V 0 (.slice A (i + j + 1) cp) 4) := hb20
              have hc20' : w5.cell? ⟨rb, 20, none⟩ = some (up V 0 (.slice A (i + j + 1) cp) 4) := hc20
              have hf20' : w5.frozen? ⟨rb, 20, none⟩ = false := hf20
              obtain ⟨v4, hv4⟩ : ∃ v4, up V 0 (.slice A (i + j + 1) cp) 4 = v4 := ⟨_, rfl⟩
              rw [hv4] at hrun4 hb20' hc20'
              rw [hl4] at hrun4 HS5
              clear hst3 hst5 hb20 hc20 hf20 hv4 hl4
              go_wp2_with (at_builtin; refine wpList_append_run rfl _ _ _ rfl hrun4 (by rfl) (by rfl) ?_)
              go_roundw
              case rel =>
                refine ⟨j + 1, _, _, by omega, by go_num, HS5.out, ?_, ?_, ?_⟩
                · rw [up_ne _ _ (by decide), up_self, HX0.out, List.append_assoc, List.replicate_succ']
                · rw [up_self, up_ne _ _ (by decide), HX4.out, nxA_step, HNX.out]
                · intro k hk0 hk4
                  rw [up_ne _ _ hk4, up_ne _ _ hk0]
                  exact HXk.out k hk0 hk4
              case measure => simp [intOf]; omega
          · have hd : decide ((j : Int) + 1 < n) = false := by simpa using hl1
            have hne : c1 ≠ c2 := by
              have e1 : c1 = -1 := by rw [← hcc1]; unfold clsV; rw [if_neg (by rw [HN.out]; omega)]
              have e2 : 0 ≤ c2 := by rw [← hcc2]; unfold clsV; rw [if_pos ⟨by omega, by rw [HN.out]; omega⟩]; omega
              omega
            have HNX : Hid (nxv q j = 0) := Lib.hid (HNV.out.trans (if_neg hne))
            clear HNV hne hcc1 hcc2 hc1 hc2
            go_quiet (fail)
            have HST3 : Hid (St w rb q (up V 0 (.slice A (i + j + 1) cp)) (up X 0 (X 0 ++ [0])) (W1.drewN nq)) := Lib.hid (HST1.out.drewN nq)
            clear hq HST1
            have hst3 := HST3.out
            have hl4 : (up X 0 (X 0 ++ [0]) 4).length = j := by rw [up_ne _ _ (by decide), HX4.out, nxA_len]
            obtain ⟨A4, cp4, w5, hrun4, hb20, hc20, hf20, hst5⟩ := hst3.push (k := 4) (by decide) (by omega) (0)
            have hrb3 := hst3.r.bx.lt
            have HS5 := Lib.hid hst5
            have hb20' : (W1.drewN nq).cell? ⟨rb, 20, none⟩ = some (up V 0 (.slice A (i + j + 1) cp) 4) := hb20
            have hc20' : w5.cell? ⟨rb, 20, none⟩ = some (up V 0 (.slice A (i + j + 1) cp) 4) := hc20
            have hf20' : w5.frozen? ⟨rb, 20, none⟩ = false := hf20
            obtain ⟨v4, hv4⟩ : ∃ v4, up V 0 (.slice A (i + j + 1) cp) 4 = v4 := ⟨_, rfl⟩
            rw [hv4] at hrun4 hb20' hc20'
            rw [hl4] at hrun4 HS5
            clear hst3 hst5 hb20 hc20 hf20 hv4 hl4
            go_wp2_with (at_builtin; refine wpList_append_run rfl _ _ _ rfl hrun4 (by rfl) (by rfl) ?_)
            go_roundw
            case rel =>
              refine ⟨j + 1, _, _, by omega, by go_num, HS5.out, ?_, ?_, ?_⟩
              · rw [up_ne _ _ (by decide), up_self, HX0.out, List.append_assoc, List.replicate_succ']
              · rw [up_self, up_ne _ _ (by decide), HX4.out, nxA_step, HNX.out]
              · intro k hk0 hk4
                rw [up_ne _ _ hk4, up_ne _ _ hk0]
                exact HXk.out k hk0 hk4
            case measure => simp [intOf]; omega
        · obtain rfl : j = n := by omega
          clear hlt hj
          obtain ⟨hm1, hf1, hs1⟩ := HST.out.make (k := 1) (by decide) no (by have := HNO.out; have := HV.out; unfold Valid at this; omega)
          have h64 : no ≤ 64 := by have := HNO.out; have := HV.out; unfold Valid at this; omega
          obtain ⟨d0, d1, d2, d3, d4, d5, d6, d7, d8, d9, d10, d11, d12⟩ := box_cells HST.out.cfg
          have hmk : ∀ w, (Instr.makeSlice TR (.int .i64 q.o) (.int .i64 q.o)).run Try.prog w = .ok (.slice (some ⟨w.heap.size, 0, none⟩) no no) (w.alloc (.cells (U (List.replicate no 0)) TU)) := fun w => by
            have := make_row w no (by omega)
            rwa [← HNO.out] at this
          have hmt : ∀ w, (Instr.makeSlice TR (.int .i64 nt) (.int .i64 nt)).run Try.prog w = .ok (.slice (some ⟨w.heap.size, 0, none⟩) nt nt) (w.alloc (.cells (U (List.replicate nt 0)) TU)) := fun w => make_row w nt (by omega)
          have hm1' : (wr.alloc (.cells (U (List.replicate no 0)) TU)).cell? ⟨rb, 14, none⟩ = some (V 1) := hm1
          have hf1' : (wr.alloc (.cells (U (List.replicate no 0)) TU)).frozen? ⟨rb, 14, none⟩ = false := hf1
          have HS1 := Lib.hid hs1
          clear hm1 hf1 hs1
          go_upto_region 16 with (fail)
          obtain ⟨W5, hW5⟩ : ∃ W5, (wr.alloc (.cells (U (List.replicate no 0)) TU)).setCell ⟨rb, 14, none⟩ (.slice (some ⟨wr.heap.size, 0, none⟩) no no) = W5 := ⟨_, rfl⟩
          have HS5 : Hid (St w rb q (up V 1 (.slice (some ⟨wr.heap.size, 0, none⟩) no no)) (up X 1 (List.replicate no 0)) W5) := Lib.hid (hW5 ▸ HS1.out)
          rw [hW5]
          clear hW5 HS1 hm1' hf1' hmk d0 d1 d2 d3 d4 d5 d6 d7 d8 d9 d10 d11 d12
          obtain ⟨hm2, hf2, hs2⟩ := HS5.out.make (k := 2) (by decide) nt (by omega)
          obtain ⟨v2, hv2⟩ : ∃ v2, up V 1 (.slice (some ⟨wr.heap.size, 0, none⟩) no no) 2 = v2 := ⟨_, rfl⟩
          have hm2' : (W5.alloc (.cells (U (List.replicate nt 0)) TU)).cell? ⟨rb, 18, none⟩ = some v2 := by rw [← hv2]; exact hm2
          have hf2' : (W5.alloc (.cells (U (List.replicate nt 0)) TU)).frozen? ⟨rb, 18, none⟩ = false := hf2
          have HS2 := Lib.hid hs2
          clear hm2 hf2 hs2 hv2
          go_upto_region 17 with (fail)
          obtain ⟨W6, hW6⟩ : ∃ W6, (W5.alloc (.cells (U (List.replicate nt 0)) TU)).setCell ⟨rb, 18, none⟩ (.slice (some ⟨W5.heap.size, 0, none⟩) nt nt) = W6 := ⟨_, rfl⟩
          have HS6 : Hid (St w rb q (up (up V 1 (.slice (some ⟨wr.heap.size, 0, none⟩) no no)) 2 (.slice (some ⟨W5.heap.size, 0, none⟩) nt nt)) (up (up X 1 (List.replicate no 0)) 2 (List.replicate nt 0)) W6) := Lib.hid (hW6 ▸ HS2.out)
          rw [hW6]
          clear hW6 HS2 hm2' hf2' hmt HS5
          obtain ⟨f0, f1, f2, f3, f4, f5, f6, f7⟩ : LayA.fits q 4 := by have := HV.out; unfold Valid at this; simp only [LayA.fits]; omega
          go_wp2_with fail
          go_loopw [12, 13] (fun av kv wr => ∃ (k : Nat) (V : Nat → Value) (X : Nat → List Int), k ≤ 4 ∧ av = .int .i64 (pre q k) ∧ kv = .int .i64 k ∧ St w rb q V X wr ∧ X 0 = xs ++ List.replicate j 0 ∧ X 1 = List.replicate no 0 ∧ X 2 = List.replicate nt 0 ∧ X 3 = hdR q k ∧ X 4 = nxL q j) (fun _ kv _ => 4 - (intOf kv).toNat)
          case atStart => exact ⟨0, _, _, by omega, rfl, rfl, HS6.out, by rw [up_ne _ _ (by decide), up_ne _ _ (by decide), HX0.out], by rw [up_ne _ _ (by decide), up_self], by rw [up_self], by rw [up_ne _ _ (by decide), up_ne _ _ (by decide), HXk.out 3 (by decide) (by decide)]; rfl, by rw [up_ne _ _ (by decide), up_ne _ _ (by decide), HX4.out, nxA_full]⟩
          case round =>
            clear HS6 HX0 HX4 HXk HST
            obtain ⟨k, V, X, hk, rfl, rfl, hst, x0, x1, x2, x3, x4⟩ := hrel
            have HST := Lib.hid hst
            have HX0 := Lib.hid x0
            have HX1 := Lib.hid x1
            have HX2 := Lib.hid x2
            have HX3 := Lib.hid x3
            have HX4 := Lib.hid x4
            clear hst x0 x1 x2 x3 x4
            obtain ⟨d0, d1, d2, d3, d4, d5, d6, d7, d8, d9, d10, d11, d12⟩ := box_cells HST.out.cfg
            have hrb := HST.out.r.bx.lt
            have hk' : k = 0 ∨ k = 1 ∨ k = 2 ∨ k = 3 ∨ k = 4 := by omega
            rcases hk' with rfl | rfl | rfl | rfl | rfl
            · have p0 : 0 ≤ pre q 0 := by simp only [pre] <;> omega
              have p1 : pre q 0 ≤ 256 := by simp only [pre] <;> omega
              have HPE := Lib.hid (show pre q 1 = pre q 0 + q.c0 by simp only [pre] <;> omega)
              have hl3 : (X 3).length = 0 := by rw [HX3.out, hdR_len]
              obtain ⟨p, hp⟩ : ∃ p, pre q 0 = p := ⟨_, rfl⟩
              have HHD : Hid (hdr q 0 = if 0 < q.c0 then p + 1 else 0) := Lib.hid (by rw [← hp]; rfl)
              rw [hp] at p0 p1 HPE ⊢
              clear hp
              have hw1 : IntKind.i64.wrap (p + 1) = p + 1 := IntWalk.i64_in _ (by omega)
              have hw2 : IntKind.u64.wrap (p + 1) = p + 1 := IntWalk.u64_in _ (by omega)
              have hw3 : IntKind.i64.wrap (p + q.c0) = p + q.c0 := IntWalk.i64_in _ (by omega)
              by_cases hpos : 0 < q.c0
              · have HNX : Hid (hdr q 0 = p + 1) := Lib.hid (HHD.out.trans (if_pos hpos))
                obtain ⟨A, cp, w5, hrun, hb, hc, hf, hst5⟩ := HST.out.push (k := 3) (by decide) (by omega) (p + 1)
                have HS5 := Lib.hid hst5
                obtain ⟨v3, hv3⟩ : ∃ v3, V 3 = v3 := ⟨_, rfl⟩
                have hb' : wr.cell? ⟨rb, 19, none⟩ = some v3 := by rw [← hv3]; exact hb
                have hc' : w5.cell? ⟨rb, 19, none⟩ = some v3 := by rw [← hv3]; exact hc
                have hf' : w5.frozen? ⟨rb, 19, none⟩ = false := hf
                rw [hv3] at hrun
                rw [hl3] at hrun HS5
                clear hst5 hb hc hf hv3
                go_upto_region 25 with (at_builtin; refine wpList_append_run rfl _ _ _ rfl hrun (by rfl) (by rfl) ?_)
                clear d0 d1 d2 d3 d4 d5 d6 d7 d8 d9 d10 d11 d12
                obtain ⟨W7, hW7⟩ : ∃ W7, w5.setCell ⟨rb, 19, none⟩ (.slice A (0 + 1) cp) = W7 := ⟨_, rfl⟩
                have HS7 : Hid (St w rb q (up V 3 (.slice A (0 + 1) cp)) (up X 3 (X 3 ++ [p + 1])) W7) := Lib.hid (hW7 ▸ HS5.out)
                first | rw [hW7] | (simp only [Nat.reduceAdd] at hW7; rw [hW7])
                clear hW7 HS5 hrun hb' hc' hf'
                obtain ⟨d0, d1, d2, d3, d4, d5, d6, d7, d8, d9, d10, d11, d12⟩ := box_cells HS7.out.cfg
                go_wp2
                go_roundw
                case rel => exact ⟨1, _, _, by omega, int_eq (by rw [HPE.out]), rfl, HS7.out, by rw [up_ne _ _ (by decide), HX0.out], by rw [up_ne _ _ (by decide), HX1.out], by rw [up_ne _ _ (by decide), HX2.out], by rw [up_self, HX3.out]; exact ((hdR_step q 0).trans (congrArg (fun z => hdR q 0 ++ [z]) HNX.out)).symm, by rw [up_ne _ _ (by decide), HX4.out]⟩
                case measure => simp [intOf]
              · have HNX : Hid (hdr q 0 = 0) := Lib.hid (HHD.out.trans (if_neg hpos))
                obtain ⟨A, cp, w5, hrun, hb, hc, hf, hst5⟩ := HST.out.push (k := 3) (by decide) (by omega) (0)
                have HS5 := Lib.hid hst5
                obtain ⟨v3, hv3⟩ : ∃ v3, V 3 = v3 := ⟨_, rfl⟩
                have hb' : wr.cell? ⟨rb, 19, none⟩ = some v3 := by rw [← hv3]; exact hb
                have hc' : w5.cell? ⟨rb, 19, none⟩ = some v3 := by rw [← hv3]; exact hc
                have hf' : w5.frozen? ⟨rb, 19, none⟩ = false := hf
                rw [hv3] at hrun
                rw [hl3] at hrun HS5
                clear hst5 hb hc hf hv3
                go_upto_region 25 with (at_builtin; refine wpList_append_run rfl _ _ _ rfl hrun (by rfl) (by rfl) ?_)
                clear d0 d1 d2 d3 d4 d5 d6 d7 d8 d9 d10 d11 d12
                obtain ⟨W7, hW7⟩ : ∃ W7, w5.setCell ⟨rb, 19, none⟩ (.slice A (0 + 1) cp) = W7 := ⟨_, rfl⟩
                have HS7 : Hid (St w rb q (up V 3 (.slice A (0 + 1) cp)) (up X 3 (X 3 ++ [0])) W7) := Lib.hid (hW7 ▸ HS5.out)
                first | rw [hW7] | (simp only [Nat.reduceAdd] at hW7; rw [hW7])
                clear hW7 HS5 hrun hb' hc' hf'
                obtain ⟨d0, d1, d2, d3, d4, d5, d6, d7, d8, d9, d10, d11, d12⟩ := box_cells HS7.out.cfg
                go_wp2
                go_roundw
                case rel => exact ⟨1, _, _, by omega, int_eq (by rw [HPE.out]), rfl, HS7.out, by rw [up_ne _ _ (by decide), HX0.out], by rw [up_ne _ _ (by decide), HX1.out], by rw [up_ne _ _ (by decide), HX2.out], by rw [up_self, HX3.out]; exact ((hdR_step q 0).trans (congrArg (fun z => hdR q 0 ++ [z]) HNX.out)).symm, by rw [up_ne _ _ (by decide), HX4.out]⟩
                case measure => simp [intOf]
            · have p0 : 0 ≤ pre q 1 := by simp only [pre] <;> omega
              have p1 : pre q 1 ≤ 256 := by simp only [pre] <;> omega
              have HPE := Lib.hid (show pre q 2 = pre q 1 + q.c1 by simp only [pre] <;> omega)
              have hl3 : (X 3).length = 1 := by rw [HX3.out, hdR_len]
              obtain ⟨p, hp⟩ : ∃ p, pre q 1 = p := ⟨_, rfl⟩
              have HHD : Hid (hdr q 1 = if 0 < q.c1 then p + 1 else 0) := Lib.hid (by rw [← hp]; rfl)
              rw [hp] at p0 p1 HPE ⊢
              clear hp
              have hw1 : IntKind.i64.wrap (p + 1) = p + 1 := IntWalk.i64_in _ (by omega)
              have hw2 : IntKind.u64.wrap (p + 1) = p + 1 := IntWalk.u64_in _ (by omega)
              have hw3 : IntKind.i64.wrap (p + q.c1) = p + q.c1 := IntWalk.i64_in _ (by omega)
              by_cases hpos : 0 < q.c1
              · have HNX : Hid (hdr q 1 = p + 1) := Lib.hid (HHD.out.trans (if_pos hpos))
                obtain ⟨A, cp, w5, hrun, hb, hc, hf, hst5⟩ := HST.out.push (k := 3) (by decide) (by omega) (p + 1)
                have HS5 := Lib.hid hst5
                obtain ⟨v3, hv3⟩ : ∃ v3, V 3 = v3 := ⟨_, rfl⟩
                have hb' : wr.cell? ⟨rb, 19, none⟩ = some v3 := by rw [← hv3]; exact hb
                have hc' : w5.cell? ⟨rb, 19, none⟩ = some v3 := by rw [← hv3]; exact hc
                have hf' : w5.frozen? ⟨rb, 19, none⟩ = false := hf
                rw [hv3] at hrun
                rw [hl3] at hrun HS5
                clear hst5 hb hc hf hv3
                go_upto_region 25 with (at_builtin; refine wpList_append_run rfl _ _ _ rfl hrun (by rfl) (by rfl) ?_)
                clear d0 d1 d2 d3 d4 d5 d6 d7 d8 d9 d10 d11 d12
                obtain ⟨W7, hW7⟩ : ∃ W7, w5.setCell ⟨rb, 19, none⟩ (.slice A (1 + 1) cp) = W7 := ⟨_, rfl⟩
                have HS7 : Hid (St w rb q (up V 3 (.slice A (1 + 1) cp)) (up X 3 (X 3 ++ [p + 1])) W7) := Lib.hid (hW7 ▸ HS5.out)
                first | rw [hW7] | (simp only [Nat.reduceAdd] at hW7; rw [hW7])
                clear hW7 HS5 hrun hb' hc' hf'
                obtain ⟨d0, d1, d2, d3, d4, d5, d6, d7, d8, d9, d10, d11, d12⟩ := box_cells HS7.out.cfg
                go_wp2
                go_roundw
                case rel => exact ⟨2, _, _, by omega, int_eq (by rw [HPE.out]), rfl, HS7.out, by rw [up_ne _ _ (by decide), HX0.out], by rw [up_ne _ _ (by decide), HX1.out], by rw [up_ne _ _ (by decide), HX2.out], by rw [up_self, HX3.out]; exact ((hdR_step q 1).trans (congrArg (fun z => hdR q 1 ++ [z]) HNX.out)).symm, by rw [up_ne _ _ (by decide), HX4.out]⟩
                case measure => simp [intOf]
              · have HNX : Hid (hdr q 1 = 0) := Lib.hid (HHD.out.trans (if_neg hpos))
                obtain ⟨A, cp, w5, hrun, hb, hc, hf, hst5⟩ := HST.out.push (k := 3) (by decide) (by omega) (0)
                have HS5 := Lib.hid hst5
                obtain ⟨v3, hv3⟩ : ∃ v3, V 3 = v3 := ⟨_, rfl⟩
                have hb' : wr.cell? ⟨rb, 19, none⟩ = some v3 := by rw [← hv3]; exact hb
                have hc' : w5.cell? ⟨rb, 19, none⟩ = some v3 := by rw [← hv3]; exact hc
                have hf' : w5.frozen? ⟨rb, 19, none⟩ = false := hf
                rw [hv3] at hrun
                rw [hl3] at hrun HS5
                clear hst5 hb hc hf hv3
                go_upto_region 25 with (at_builtin; refine wpList_append_run rfl _ _ _ rfl hrun (by rfl) (by rfl) ?_)
                clear d0 d1 d2 d3 d4 d5 d6 d7 d8 d9 d10 d11 d12
                obtain ⟨W7, hW7⟩ : ∃ W7, w5.setCell ⟨rb, 19, none⟩ (.slice A (1 + 1) cp) = W7 := ⟨_, rfl⟩
                have HS7 : Hid (St w rb q (up V 3 (.slice A (1 + 1) cp)) (up X 3 (X 3 ++ [0])) W7) := Lib.hid (hW7 ▸ HS5.out)
                first | rw [hW7] | (simp only [Nat.reduceAdd] at hW7; rw [hW7])
                clear hW7 HS5 hrun hb' hc' hf'
                obtain ⟨d0, d1, d2, d3, d4, d5, d6, d7, d8, d9, d10, d11, d12⟩ := box_cells HS7.out.cfg
                go_wp2
                go_roundw
                case rel => exact ⟨2, _, _, by omega, int_eq (by rw [HPE.out]), rfl, HS7.out, by rw [up_ne _ _ (by decide), HX0.out], by rw [up_ne _ _ (by decide), HX1.out], by rw [up_ne _ _ (by decide), HX2.out], by rw [up_self, HX3.out]; exact ((hdR_step q 1).trans (congrArg (fun z => hdR q 1 ++ [z]) HNX.out)).symm, by rw [up_ne _ _ (by decide), HX4.out]⟩
                case measure => simp [intOf]
            · have p0 : 0 ≤ pre q 2 := by simp only [pre] <;> omega
              have p1 : pre q 2 ≤ 256 := by simp only [pre] <;> omega
              have HPE := Lib.hid (show pre q 3 = pre q 2 + q.c2 by simp only [pre] <;> omega)
              have hl3 : (X 3).length = 2 := by rw [HX3.out, hdR_len]
              obtain ⟨p, hp⟩ : ∃ p, pre q 2 = p := ⟨_, rfl⟩
              have HHD : Hid (hdr q 2 = if 0 < q.c2 then p + 1 else 0) := Lib.hid (by rw [← hp]; rfl)
              rw [hp] at p0 p1 HPE ⊢
              clear hp
              have hw1 : IntKind.i64.wrap (p + 1) = p + 1 := IntWalk.i64_in _ (by omega)
              have hw2 : IntKind.u64.wrap (p + 1) = p + 1 := IntWalk.u64_in _ (by omega)
              have hw3 : IntKind.i64.wrap (p + q.c2) = p + q.c2 := IntWalk.i64_in _ (by omega)
              by_cases hpos : 0 < q.c2
              · have HNX : Hid (hdr q 2 = p + 1) := Lib.hid (HHD.out.trans (if_pos hpos))
                obtain ⟨A, cp, w5, hrun, hb, hc, hf, hst5⟩ := HST.out.push (k := 3) (by decide) (by omega) (p + 1)
                have HS5 := Lib.hid hst5
                obtain ⟨v3, hv3⟩ : ∃ v3, V 3 = v3 := ⟨_, rfl⟩
                have hb' : wr.cell? ⟨rb, 19, none⟩ = some v3 := by rw [← hv3]; exact hb
                have hc' : w5.cell? ⟨rb, 19, none⟩ = some v3 := by rw [← hv3]; exact hc
                have hf' : w5.frozen? ⟨rb, 19, none⟩ = false := hf
                rw [hv3] at hrun
                rw [hl3] at hrun HS5
                clear hst5 hb hc hf hv3
                go_upto_region 25 with (at_builtin; refine wpList_append_run rfl _ _ _ rfl hrun (by rfl) (by rfl) ?_)
                clear d0 d1 d2 d3 d4 d5 d6 d7 d8 d9 d10 d11 d12
                obtain ⟨W7, hW7⟩ : ∃ W7, w5.setCell ⟨rb, 19, none⟩ (.slice A (2 + 1) cp) = W7 := ⟨_, rfl⟩
                have HS7 : Hid (St w rb q (up V 3 (.slice A (2 + 1) cp)) (up X 3 (X 3 ++ [p + 1])) W7) := Lib.hid (hW7 ▸ HS5.out)
                first | rw [hW7] | (simp only [Nat.reduceAdd] at hW7; rw [hW7])
                clear hW7 HS5 hrun hb' hc' hf'
                obtain ⟨d0, d1, d2, d3, d4, d5, d6, d7, d8, d9, d10, d11, d12⟩ := box_cells HS7.out.cfg
                go_wp2
                go_roundw
                case rel => exact ⟨3, _, _, by omega, int_eq (by rw [HPE.out]), rfl, HS7.out, by rw [up_ne _ _ (by decide), HX0.out], by rw [up_ne _ _ (by decide), HX1.out], by rw [up_ne _ _ (by decide), HX2.out], by rw [up_self, HX3.out]; exact ((hdR_step q 2).trans (congrArg (fun z => hdR q 2 ++ [z]) HNX.out)).symm, by rw [up_ne _ _ (by decide), HX4.out]⟩
                case measure => simp [intOf]
              · have HNX : Hid (hdr q 2 = 0) := Lib.hid (HHD.out.trans (if_neg hpos))
                obtain ⟨A, cp, w5, hrun, hb, hc, hf, hst5⟩ := HST.out.push (k := 3) (by decide) (by omega) (0)
                have HS5 := Lib.hid hst5
                obtain ⟨v3, hv3⟩ : ∃ v3, V 3 = v3 := ⟨_, rfl⟩
                have hb' : wr.cell? ⟨rb, 19, none⟩ = some v3 := by rw [← hv3]; exact hb
                have hc' : w5.cell? ⟨rb, 19, none⟩ = some v3 := by rw [← hv3]; exact hc
                have hf' : w5.frozen? ⟨rb, 19, none⟩ = false := hf
                rw [hv3] at hrun
                rw [hl3] at hrun HS5
                clear hst5 hb hc hf hv3
                go_upto_region 25 with (at_builtin; refine wpList_append_run rfl _ _ _ rfl hrun (by rfl) (by rfl) ?_)
                clear d0 d1 d2 d3 d4 d5 d6 d7 d8 d9 d10 d11 d12
                obtain ⟨W7, hW7⟩ : ∃ W7, w5.setCell ⟨rb, 19, none⟩ (.slice A (2 + 1) cp) = W7 := ⟨_, rfl⟩
                have HS7 : Hid (St w rb q (up V 3 (.slice A (2 + 1) cp)) (up X 3 (X 3 ++ [0])) W7) := Lib.hid (hW7 ▸ HS5.out)
                first | rw [hW7] | (simp only [Nat.reduceAdd] at hW7; rw [hW7])
                clear hW7 HS5 hrun hb' hc' hf'
                obtain ⟨d0, d1, d2, d3, d4, d5, d6, d7, d8, d9, d10, d11, d12⟩ := box_cells HS7.out.cfg
                go_wp2
                go_roundw
                case rel => exact ⟨3, _, _, by omega, int_eq (by rw [HPE.out]), rfl, HS7.out, by rw [up_ne _ _ (by decide), HX0.out], by rw [up_ne _ _ (by decide), HX1.out], by rw [up_ne _ _ (by decide), HX2.out], by rw [up_self, HX3.out]; exact ((hdR_step q 2).trans (congrArg (fun z => hdR q 2 ++ [z]) HNX.out)).symm, by rw [up_ne _ _ (by decide), HX4.out]⟩
                case measure => simp [intOf]
            · have p0 : 0 ≤ pre q 3 := by simp only [pre] <;> omega
              have p1 : pre q 3 ≤ 256 := by simp only [pre] <;> omega
              have HPE := Lib.hid (show pre q 4 = pre q 3 + q.c3 by simp only [pre] <;> omega)
              have hl3 : (X 3).length = 3 := by rw [HX3.out, hdR_len]
              obtain ⟨p, hp⟩ : ∃ p, pre q 3 = p := ⟨_, rfl⟩
              have HHD : Hid (hdr q 3 = if 0 < q.c3 then p + 1 else 0) := Lib.hid (by rw [← hp]; rfl)
              rw [hp] at p0 p1 HPE ⊢
              clear hp
              have hw1 : IntKind.i64.wrap (p + 1) = p + 1 := IntWalk.i64_in _ (by omega)
              have hw2 : IntKind.u64.wrap (p + 1) = p + 1 := IntWalk.u64_in _ (by omega)
              have hw3 : IntKind.i64.wrap (p + q.c3) = p + q.c3 := IntWalk.i64_in _ (by omega)
              by_cases hpos : 0 < q.c3
              · have HNX : Hid (hdr q 3 = p + 1) := Lib.hid (HHD.out.trans (if_pos hpos))
                obtain ⟨A, cp, w5, hrun, hb, hc, hf, hst5⟩ := HST.out.push (k := 3) (by decide) (by omega) (p + 1)
                have HS5 := Lib.hid hst5
                obtain ⟨v3, hv3⟩ : ∃ v3, V 3 = v3 := ⟨_, rfl⟩
                have hb' : wr.cell? ⟨rb, 19, none⟩ = some v3 := by rw [← hv3]; exact hb
                have hc' : w5.cell? ⟨rb, 19, none⟩ = some v3 := by rw [← hv3]; exact hc
                have hf' : w5.frozen? ⟨rb, 19, none⟩ = false := hf
                rw [hv3] at hrun
                rw [hl3] at hrun HS5
                clear hst5 hb hc hf hv3
                go_upto_region 25 with (at_builtin; refine wpList_append_run rfl _ _ _ rfl hrun (by rfl) (by rfl) ?_)
                clear d0 d1 d2 d3 d4 d5 d6 d7 d8 d9 d10 d11 d12
                obtain ⟨W7, hW7⟩ : ∃ W7, w5.setCell ⟨rb, 19, none⟩ (.slice A (3 + 1) cp) = W7 := ⟨_, rfl⟩
                have HS7 : Hid (St w rb q (up V 3 (.slice A (3 + 1) cp)) (up X 3 (X 3 ++ [p + 1])) W7) := Lib.hid (hW7 ▸ HS5.out)
                first | rw [hW7] | (simp only [Nat.reduceAdd] at hW7; rw [hW7])
                clear hW7 HS5 hrun hb' hc' hf'
                obtain ⟨d0, d1, d2, d3, d4, d5, d6, d7, d8, d9, d10, d11, d12⟩ := box_cells HS7.out.cfg
                go_wp2
                go_roundw
                case rel => exact ⟨4, _, _, by omega, int_eq (by rw [HPE.out]), rfl, HS7.out, by rw [up_ne _ _ (by decide), HX0.out], by rw [up_ne _ _ (by decide), HX1.out], by rw [up_ne _ _ (by decide), HX2.out], by rw [up_self, HX3.out]; exact ((hdR_step q 3).trans (congrArg (fun z => hdR q 3 ++ [z]) HNX.out)).symm, by rw [up_ne _ _ (by decide), HX4.out]⟩
                case measure => simp [intOf]
              · have HNX : Hid (hdr q 3 = 0) := Lib.hid (HHD.out.trans (if_neg hpos))
                obtain ⟨A, cp, w5, hrun, hb, hc, hf, hst5⟩ := HST.out.push (k := 3) (by decide) (by omega) (0)
                have HS5 := Lib.hid hst5
                obtain ⟨v3, hv3⟩ : ∃ v3, V 3 = v3 := ⟨_, rfl⟩
                have hb' : wr.cell? ⟨rb, 19, none⟩ = some v3 := by rw [← hv3]; exact hb
                have hc' : w5.cell? ⟨rb, 19, none⟩ = some v3 := by rw [← hv3]; exact hc
                have hf' : w5.frozen? ⟨rb, 19, none⟩ = false := hf
                rw [hv3] at hrun
                rw [hl3] at hrun HS5
                clear hst5 hb hc hf hv3
                go_upto_region 25 with (at_builtin; refine wpList_append_run rfl _ _ _ rfl hrun (by rfl) (by rfl) ?_)
                clear d0 d1 d2 d3 d4 d5 d6 d7 d8 d9 d10 d11 d12
                obtain ⟨W7, hW7⟩ : ∃ W7, w5.setCell ⟨rb, 19, none⟩ (.slice A (3 + 1) cp) = W7 := ⟨_, rfl⟩
                have HS7 : Hid (St w rb q (up V 3 (.slice A (3 + 1) cp)) (up X 3 (X 3 ++ [0])) W7) := Lib.hid (hW7 ▸ HS5.out)
                first | rw [hW7] | (simp only [Nat.reduceAdd] at hW7; rw [hW7])
                clear hW7 HS5 hrun hb' hc' hf'
                obtain ⟨d0, d1, d2, d3, d4, d5, d6, d7, d8, d9, d10, d11, d12⟩ := box_cells HS7.out.cfg
                go_wp2
                go_roundw
                case rel => exact ⟨4, _, _, by omega, int_eq (by rw [HPE.out]), rfl, HS7.out, by rw [up_ne _ _ (by decide), HX0.out], by rw [up_ne _ _ (by decide), HX1.out], by rw [up_ne _ _ (by decide), HX2.out], by rw [up_self, HX3.out]; exact ((hdR_step q 3).trans (congrArg (fun z => hdR q 3 ++ [z]) HNX.out)).symm, by rw [up_ne _ _ (by decide), HX4.out]⟩
                case measure => simp [intOf]
            · go_wp2
              go_ret
              exact ⟨rb, rfl, HST.out.ends HX0.out HX1.out HX2.out (HX3.out.trans (hdR_full HV.out HS4.out)) HX4.out, HST.out.old⟩
end Go.Proofs.Ytpjbmbipkmpkhaa.CelG
