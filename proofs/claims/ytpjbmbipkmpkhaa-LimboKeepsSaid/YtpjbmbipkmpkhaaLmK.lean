/-
  Layer 18's statements' own functions: heap, blocks, the start; the sanity check awake. What LimboKeeps and LimboClasses need besides: a row put at the end of another one; a pop, step by step; how often each block is somewhere.
-/
import Derived.Test.YtpjbmbipkmpkhaaLmF
import Derived.Test.YtpjbmbipkmpkhaaCelT
import Derived.Deep.RegionLaw
import Derived.Deep.RegionHeld3
import Derived.Deep.Cut
import Derived.Deep.DeepCutAuto
import Derived.Deep.CutBlock
import Derived.BigQuiet
import Derived.Deep.QuietTactic
namespace Go.Proofs.Ytpjbmbipkmpkhaa.LmL
open Go.ChangeShapes Go.WideShapes Go.ChangeAt Go.RowKit
open PlainT BlkW LayS LayA LayF LayH LayK CelS CelM CelP CelV CelN CelO CelF LabD LabR LabP LabS LabX LabN CelLo RsA ObjA ClnA FreP FreA FreB LmP LmA LawFrame CelB CelG CelL CelI CelQ FreQ FreV FreC FreI LayP LabX LmB LmC LmD LmE LmF
set_option linter.unusedVariables false
set_option maxHeartbeats 2000000
set_option maxRecDepth 100000


theorem l_heap18 (w : World) : Calls Try.prog 49 #[] w fun e w' => e = .returned (.agg #[.int .i64 20, .int .i64 4, .int .i64 1, .int .i64 3, .int .i64 2, .int .i64 1, .int .i64 0, .int .i64 1, .int .i64 1, .int .i64 0, .int .i64 0, .int .i64 0, .bool false]) ∧ Below w.heap.size w w' := by
  have HB := Lib.hid (below_new w (.cells (cells hq) TC))
  have HM := Lib.hid (Mem.new w TC (cells hq))
  go_enter Try.func49, Try.ntmps49
  go_wp2
  refine bodyPost_ret (v := cfgV hq) (results_cell_row rfl _ _ w.heap.size TC (cells hq) (0, 0) _ (by simp) HM.out Try.underlying43 rfl (by kernel_rfl)) rfl ⟨rfl, HB.out⟩

theorem start_heap (nt : Nat) (z : Int) (hz : z = nt) (t1 : 1 ≤ nt) (t2 : nt ≤ 16) (w : World) : Calls Try.prog 31 #[.agg #[.int .i64 20, .int .i64 4, .int .i64 1, .int .i64 3, .int .i64 2, .int .i64 1, .int .i64 0, .int .i64 1, .int .i64 1, .int .i64 0, .int .i64 0, .int .i64 0, .bool false], .int .i64 z] w fun e w' => ∃ A lo hi b rb, e = .returned (.tuple #[pairV b rb, .bool true]) ∧ BegunN w hq nt A lo hi b rb w' := by
  subst hz
  exact l_startn hq (Lib.hid hq_valid) nt t1 t2 w
theorem begun_heap {w0 w : World} {nt : Nat} {A : Int → List Int} {lo hi b rb : Nat} (h : BegunN w0 hq nt A lo hi b rb w) : Ch 0 A T0 L0 ∧ A 7 = [1, 4, 6, 0] ∧ A 8 = N0 := by
  obtain ⟨⟨n, no, hn, hno, rfl⟩, _⟩ := h
  have e6 : n = 6 := by
    have : blkV hq = 6 := by decide
    omega
  subst e6
  have h7 : A0 hq 6 no nt (gen hq.w.toNat) 7 = [1, 4, 6, 0] := by show hdL hq 6 = _; decide
  have h8 : A0 hq 6 no nt (gen hq.w.toNat) 8 = N0 := by show nxL hq 6 = _; decide
  exact ⟨ch0 h7 h8 rfl rfl rfl, h7, h8⟩

/-- What blocks makes of a list. -/
def blkF (z : List Int) : List Int := (z.take 6).map fun a => pl a 8 - 1
theorem blkF_len (z : List Int) : (blkF z).length = min 6 z.length := by simp [blkF]

theorem pl8 (a : Int) : 0 ≤ pl a 8 ∧ pl a 8 ≤ 7 := by
  have := pl_in a 8 (by decide) (by decide)
  omega

theorem l_blocks {wi w : World} {A : Option Addr} {n cap : Nat} {z : List Int} (hz : Ints .i64 wi A n z) (hb : Below wi.heap.size wi w) : Calls Try.prog 53 #[.slice A n cap] w fun e w' => ∃ Ao m co, e = .returned (.slice Ao m co) ∧ (blkF z).length = m ∧ w'.ownsRow w.heap.size TI 1 (.slice Ao m co) m (is (blkF z)) ∧ Below w.heap.size w w' := by
  obtain ⟨h1, h2, h3⟩ := hz
  have HB := Lib.hid hb
  have H3 := Lib.hid h3
  have H1 := Lib.hid h1
  clear hb h2 h3
  go_enter Try.func53, Try.ntmps53
  go_wp2_with fail
  go_loopw [3, 4] (fun sv iv wr => ∃ (i : Nat) (Ao : Option Addr) (co : Nat), i ≤ n ∧ i ≤ 6 ∧ iv = .int .i64 i ∧ sv = .slice Ao i co ∧ Hid (wr.ownsRow w.heap.size TI 1 (.slice Ao i co) i (isV ((z.take i).map fun a => pl a 8 - 1))) ∧ Hid (Below w.heap.size w wr)) (fun _ iv _ => n - (intOf iv).toNat)
  case atStart => exact ⟨0, none, 0, by omega, by omega, rfl, rfl, Lib.hid (World.ownsRow_nil _ _ _ _), Lib.hid (Below.refl _ _)⟩
  case round =>
    obtain ⟨i, Ao, co, hin, hi6, rfl, rfl, HO, HW⟩ := hrel
    by_cases hlt : i < n
    · have hltI : (i : Int) < n := by omega
      by_cases h6 : i < 6
      · have h6I : (i : Int) < 6 := by omega
        obtain ⟨gb, off, rfl, hg, hc⟩ := H3.out (by omega)
        have hzl : z.length = n := H1.out
        have hzi : z[i]? = some (z[i]'(by omega)) := List.getElem?_eq_getElem _
        obtain ⟨x, hxe⟩ : ∃ x, z[i]'(by omega) = x := ⟨_, rfl⟩
        rw [hxe] at hzi
        have r0 : wr.cell? ⟨gb, off + i, none⟩ = some (.int .i64 x) := (World.cell?_of_block ((below_trans2 HB.out HW.out).block gb hg)).trans ((hc i hlt).trans (by rw [List.getD_eq_getElem?_getD, hzi]; rfl))
        clear hc hxe
        obtain ⟨v, hv⟩ : ∃ v, pl x 8 = v := ⟨_, rfl⟩
        have hv0 : 0 ≤ v ∧ v ≤ 7 := by rw [← hv]; exact pl8 x
        have hpc := k_place x 8 v (by decide) (by decide) hv
        have hsb : wrap64 (v - 1) = v - 1 := IntWalk.wrap64_in _ (by omega)
        have hsb2 : IntKind.i64.wrap (v - 1) = v - 1 := IntWalk.i64_in _ (by omega)
        have hxs : ((z.take i).map fun a => pl a 8 - 1).length = i := by rw [List.length_map, List.length_take]; omega
        obtain ⟨A2, c2, w5, hrun, hown, hbel, _, _⟩ := push_i (B := w.heap.size) HW.out.size (v := .slice Ao i co) (xs := (z.take i).map fun a => pl a 8 - 1) (by unfold OwnI; rw [hxs]; exact HO.out) (by rw [hxs]; omega) (v - 1)
        rw [hxs] at hrun
        have HW2 := Lib.hid (HW.out.trans hbel)
        have HO2 : Hid (w5.ownsRow w.heap.size TI 1 (.slice A2 (i + 1) c2) (i + 1) (isV ((z.take (i + 1)).map fun a => pl a 8 - 1))) := Lib.hid (by
          unfold OwnI at hown
          rw [List.length_append, hxs] at hown
          have e : z.take (i + 1) = z.take i ++ [x] := by rw [List.take_add_one, hzi]; rfl
          rw [e, List.map_append, List.map_cons, hv]
          exact hown)
        clear hown hbel hxs HO
        go_wp2_with (first | (go_at_call 12; (with_reducible refine (hpc _).mono ?_); rintro e w9 ⟨rfl, rfl⟩) | (at_builtin; refine wpList_append_run rfl _ _ _ rfl hrun (by rfl) (by rfl) ?_; clear hrun))
        go_roundw
        case rel => exact ⟨i + 1, A2, c2, by omega, by omega, by go_num, rfl, HO2, HW2⟩
        case measure => (first | (simp [intOf]; omega) | simp [intOf])
      · obtain rfl : i = 6 := by omega
        have hfin : ((z.take 6).map fun a => pl a 8 - 1) = blkF z := rfl
        have hlen : (blkF z).length = 6 := by have := H1.out; rw [blkF_len]; omega
        go_wp2_with fail
        go_ret
        exact ⟨Ao, 6, co, rfl, hlen, by have := HO.out; rw [hfin] at this; exact this, HW.out⟩
    · obtain rfl : i = n := by omega
      have hfin : ((z.take i).map fun a => pl a 8 - 1) = blkF z := by have := H1.out; unfold blkF; rw [List.take_of_length_le (by omega), List.take_of_length_le (by omega)]
      have hlen : (blkF z).length = i := by have := H1.out; rw [blkF_len]; omega
      go_wp2_with fail
      go_ret
      exact ⟨Ao, i, co, rfl, hlen, by have := HO.out; rw [hfin] at this; exact this, HW.out⟩

theorem x_new {w0 w : World} {lo hi b rb : Nat} {A B : Int → List Int} {X : List Ob} (h : Lo w0 lo hi b rb hq A B X w) : Calls Try.prog 50 #[.agg #[.int .i64 20, .int .i64 4, .int .i64 1, .int .i64 3, .int .i64 2, .int .i64 1, .int .i64 0, .int .i64 1, .int .i64 1, .int .i64 0, .int .i64 0, .int .i64 0, .bool false]] w fun e w' => ∃ g As cs, e = .returned (.pointer (some ⟨g, 0, none⟩)) ∧ Lo w0 lo hi b rb hq A B (X ++ [lM g (.slice As 6 cs) (.slice none 0 0) []]) w' := lb_new (by rw [List.append_nil]; exact h)

theorem rds_lit {K : IntKind} {T : TypeId} (w : World) (xs : List Int) (hl : xs.length ≤ maxLen) : RdS K (w.alloc (.cells (xs.map (Value.int K)).toArray T)) (.slice (some ⟨w.heap.size, 0, none⟩) xs.length xs.length) xs :=
  ⟨_, _, rfl, Nat.le_refl _, hl, fun j x hj => ⟨w.heap.size, 0, rfl, by
    rw [(Mem.new w T (xs.map (Value.int K)).toArray).cell]
    rw [Nat.zero_add, List.getElem?_toArray, List.getElem?_map, hj]
    rfl⟩⟩
/-- A list that is written out. -/
theorem Lo.lit {w0 w : World} {lo hi b rb : Nat} {q : Cfg} {A B : Int → List Int} {ex : List Ob} (h : Lo w0 lo hi b rb q A B ex w) (xs : List Int) (hl : xs.length ≤ maxLen) : Lo w0 lo hi b rb q A B (ex ++ [rd .i64 (.slice (some ⟨w.heap.size, 0, none⟩) xs.length xs.length) xs]) (w.alloc (.cells (xs.map (Value.int .i64)).toArray TI)) :=
  h.add (below_new _ _) ⟨rds_lit w xs hl, fun g hg => by
    have : w.heap.size = g := by simpa [Value.ownBlock] using hg
    rw [size_new]
    omega⟩ fun g hg => by
    have : g = w.heap.size := by simpa [rd, Value.ownBlock] using hg
    omega
theorem rdi_of {w : World} {v : Value} {xs : List Int} (h : RdR .i64 w v xs) : RdI w v xs := by
  obtain ⟨⟨p, cap, e, _, _, hc⟩, _⟩ := h
  exact ⟨p, cap, e, hc⟩
theorem rdi_rv {w : World} {v : Value} {n : Nat} {xs : List Int} (h : (rv TI 1 v n (is xs)).is w) : RdI w v xs := by
  have hn : n = xs.length := by have := h.1; simp at this; omega
  subst hn
  exact rdi_own (B := 0) h
theorem fld_head (vd vo vl vh vn : Value) (c t s : Int) (wx : World) : (Instr.field 39 (.agg #[vd, vo, .int .u64 c, .int .u64 t, .int .u64 s, vl, vh, vn]) 6).run Try.prog wx = .ok vh wx := by kernel_rfl
theorem dI_next {A A1 : Int → List Int} {bs bs1 : List Nat} {n st : Nat} {x : Int} (h : dI A bs n = (A1, bs1, st, x)) : dI A bs (n + 1) = (dA A1 bs1 st x, dB bs1 st, dS bs1 st, dX A1 bs1 st x) := by
  show (dA (dI A bs n).1 (dI A bs n).2.1 (dI A bs n).2.2.1 (dI A bs n).2.2.2, dB (dI A bs n).2.1 (dI A bs n).2.2.1, dS (dI A bs n).2.1 (dI A bs n).2.2.1, dX (dI A bs n).1 (dI A bs n).2.1 (dI A bs n).2.2.1 (dI A bs n).2.2.2) = _
  rw [h]
theorem dI_three {A : Int → List Int} (h7 : A 7 = [1, 4, 6, 0]) : (dI A [2] 3).1 7 = [65539, 4, 6, 0] ∧ (dI A [2] 3).2.1 = [] := by
  have e0 : dI A [2] 0 = (A, [2], 0, 0) := rfl
  have e1 := dI_next e0
  have e2 := dI_next e1
  have e3 := dI_next e2
  rw [e3]
  refine ⟨?_, rfl⟩
  obtain ⟨z, hz⟩ : ∃ z, (A 7).getD 0 0 % 65536 = z := ⟨_, rfl⟩
  have e : upd (upd A 8 2 z) 7 0 (bmp ((A 7).getD 0 0) 2) 7 = ((upd A 8 2 z) 7).set 0 (bmp ((A 7).getD 0 0) 2) := if_pos rfl
  show upd (upd A 8 2 ((A 7).getD 0 0 % 65536)) 7 0 (bmp ((A 7).getD 0 0) 2) 7 = _
  rw [hz, e, upd_ne (by decide), h7]
  decide

/-! The sanity check. -/
theorem l_awake (w : World) : Calls Try.prog 48 #[] w fun e w' => e = .returned (.bool true) ∧ Below w.heap.size w w' := by
  go_enter Try.func48, Try.ntmps48
  go_upto_region 2 with (first | (go_at_call 49; (with_reducible refine (l_heap18 _).mono ?_); rintro e w1 ⟨rfl, hb1⟩) | (go_at_call 31; (with_reducible refine (start_heap 1 1 rfl (by decide) (by decide) _).mono ?_); rintro e w2 ⟨A, lo, hi, b, rb, rfl, hst⟩))
  have L0 : Hid (Lo w1 lo hi b rb hq A A [] w2) := Lib.hid (Lo.begunN hst)
  have HC := Lib.hid (begun_heap hst)
  have HB1 := Lib.hid hb1
  clear hst hb1
  have L1 := Lib.hid (L0.out.new TP #[.pointer (some ⟨b, 0, none⟩), .pointer (some ⟨rb, 0, none⟩)])
  obtain ⟨gp, hn⟩ : ∃ gp, w2.heap.size = gp := ⟨_, rfl⟩
  rw [hn] at L1
  first | rw [hn] | skip
  clear hn
  obtain ⟨W1, hW⟩ : ∃ W', w2.alloc (.cells #[.pointer (some ⟨b, 0, none⟩), .pointer (some ⟨rb, 0, none⟩)] TP) = W' := ⟨_, rfl⟩
  rw [hW] at L1
  first | rw [hW] | skip
  clear hW
  have L1 : Hid (Lo w1 lo hi b rb hq A A [bx gp TP #[.pointer (some ⟨b, 0, none⟩), .pointer (some ⟨rb, 0, none⟩)]] W1) := L1
  clear L0
  go_upto_region 5 with (first | (go_at_call 49; (with_reducible refine (l_heap18 _).mono ?_); rintro e wh ⟨rfl, hbh⟩; have hnw := x_new (Lo.below L1.out hbh)) | (go_at_call 50; (with_reducible refine hnw.mono ?_); rintro e w3 ⟨g, As, cs, rfl, hL⟩))
  have L2 : Hid (Lo w1 lo hi b rb hq A A [bx gp TP #[.pointer (some ⟨b, 0, none⟩), .pointer (some ⟨rb, 0, none⟩)], lM g (.slice As 6 cs) (.slice none 0 0) []] w3) := Lib.hid (hL)
  clear L1 hL hnw hbh
  have LT : Hid (Lo w1 lo hi b rb hq A A [bx gp TP #[.pointer (some ⟨b, 0, none⟩), .pointer (some ⟨rb, 0, none⟩)], lM g (.slice As 6 cs) (.slice none 0 0) [], rd .i64 (.slice (some ⟨w3.heap.size, 0, none⟩) 1 1) [2]] ((w3.alloc (.cells #[.int .i64 2] TI)))) := Lib.hid (Lo.lit L2.out [2] (by decide))
  have had := x_add (i := 1) (z := 4) LT.out rfl (rdb_of (j := 2) rfl (by decide) (fun _ h => h)) (by decide)
  go_upto_region 6 with ((go_at_call 52; (with_reducible refine had.mono ?_); rintro e w4 ⟨rfl, s1, hL⟩))
  obtain ⟨us1, hus1⟩ : ∃ u : Value, .slice (some ⟨w3.heap.size, 0, none⟩) 1 1 = u := ⟨_, rfl⟩
  rw [hus1] at hL
  clear hus1
  have L3 : Hid (Lo w1 lo hi b rb hq A A [bx gp TP #[.pointer (some ⟨b, 0, none⟩), .pointer (some ⟨rb, 0, none⟩)], lM g (.slice As 6 cs) s1 [(2, 4)], rd .i64 us1 [2]] w4) := Lib.hid (hL)
  clear L2 hL had LT
  have LT : Hid (Lo w1 lo hi b rb hq A A [bx gp TP #[.pointer (some ⟨b, 0, none⟩), .pointer (some ⟨rb, 0, none⟩)], lM g (.slice As 6 cs) s1 [(2, 4)], rd .i64 us1 [2], rd .i64 (.slice (some ⟨w4.heap.size, 0, none⟩) 2 2) [0, 1]] ((w4.alloc (.cells #[.int .i64 0, .int .i64 1] TI)))) := Lib.hid (Lo.lit L3.out [0, 1] (by decide))
  have had := x_add (i := 1) (z := 6) LT.out rfl (rdb_of (j := 3) rfl (by decide) (fun _ h => h)) (by decide)
  go_upto_region 7 with ((go_at_call 52; (with_reducible refine had.mono ?_); rintro e w5 ⟨rfl, s2, hL⟩))
  obtain ⟨us2, hus2⟩ : ∃ u : Value, .slice (some ⟨w4.heap.size, 0, none⟩) 2 2 = u := ⟨_, rfl⟩
  rw [hus2] at hL
  clear hus2
  have L4 : Hid (Lo w1 lo hi b rb hq A A [bx gp TP #[.pointer (some ⟨b, 0, none⟩), .pointer (some ⟨rb, 0, none⟩)], lM g (.slice As 6 cs) s2 [(2, 4), (0, 6), (1, 6)], rd .i64 us1 [2], rd .i64 us2 [0, 1]] w5) := Lib.hid (hL)
  clear L3 hL had LT
  have hdr := x_drain (i := 1) (z := 5) L4.out rfl (by decide) (fun p hp => by simp at hp; rcases hp with rfl | rfl | rfl <;> decide)
  go_upto_region 8 with ((go_at_call 55; (with_reducible refine hdr.mono ?_); rintro e w6 ⟨gd, v, ps, s3, rfl, hps, hL⟩))
  have hps1 : ps.map Prod.snd = [2] := hps
  have hpl : ps.length = 1 := by have := congrArg List.length hps1; simpa using this
  have L5 : Hid (Lo w1 lo hi b rb hq A A [bx gp TP #[.pointer (some ⟨b, 0, none⟩), .pointer (some ⟨rb, 0, none⟩)], lM g (.slice As 6 cs) s3 [(0, 6), (1, 6)], rd .i64 us1 [2], rd .i64 us2 [0, 1], dM gd v ps 0 0] w6) := Lib.hid (hL)
  clear L4 hL hdr hps
  have hlf := dx_left (i := 4) (z := 1) L5.out rfl (Lib.hid (by rw [hpl]; rfl))
  go_upto_region 11 with ((go_at_call 60; (with_reducible refine hlf.mono ?_); rintro e w9 ⟨rfl, rfl⟩))
  clear hlf
  go_wp2_with fail
  have HI0 : Hid (dI A [2] 0 = (A, ps.map Prod.snd, 0, 0)) := Lib.hid (by rw [hps1]; rfl)
  have HD0 : Hid (Dk A (ps.map Prod.snd) 0 0) := Lib.hid (.start (HC.out.1.six (by decide)) (fun b hb => by rw [hps1] at hb; simp at hb; omega))
  go_loopw [6] (fun iv wr => ∃ (i : Nat) (A1 : Int → List Int) (v1 : Value) (ps1 : PL) (st : Nat) (x : Int), i ≤ 3 ∧ iv = .int .i64 i ∧ Hid (dI A [2] i = (A1, ps1.map Prod.snd, st, x)) ∧ Hid (Dk A1 (ps1.map Prod.snd) st x) ∧ Hid (Lo w1 lo hi b rb hq A1 A [bx gp TP #[.pointer (some ⟨b, 0, none⟩), .pointer (some ⟨rb, 0, none⟩)], lM g (.slice As 6 cs) s3 [(0, 6), (1, 6)], rd .i64 us1 [2], rd .i64 us2 [0, 1], dM gd v1 ps1 st x] wr)) (fun iv _ => 3 - (intOf iv).toNat)
  case atStart => exact ⟨0, A, v, ps, 0, 0, by omega, rfl, HI0, HD0, L5⟩
  case round =>
    clear L5 HI0 HD0 hps1 hpl
    obtain ⟨i, A1, v1, ps1, st, x, hi3, rfl, HI, HD, L0⟩ := hrel
    by_cases hlt : i < 3
    · have hltI : (i : Int) < 3 := by omega
      obtain ⟨k1, k2, k3, k4, k5, d, hac⟩ := dC_ex A1 (ps1.map Prod.snd) st x
      obtain ⟨A', hA'⟩ : ∃ A', dA A1 (ps1.map Prod.snd) st x = A' := ⟨_, rfl⟩
      have hst := dx_step (i := 4) L0.out rfl HD.out (Lib.hid hac) (Lib.hid hA')
      have HI2 : Hid (dI A [2] (i + 1) = (A', (dB ps1 st).map Prod.snd, dS ps1 st, dX A1 (ps1.map Prod.snd) st x)) := Lib.hid (by rw [dI_next HI.out, hA', dB_map, dS_map])
      have HD2 : Hid (Dk A' ((dB ps1 st).map Prod.snd) (dS ps1 st) (dX A1 (ps1.map Prod.snd) st x)) := Lib.hid (by have := HD.out.next; rw [hA', dB_map, dS_map] at this; exact this)
      clear hac hA'
      have c0_0_0 : wr.cell? ⟨gp, 0, none⟩ = some (.pointer (some ⟨b, 0, none⟩)) := L0.out.c 0 0 rfl rfl
      go_wp2_with (go_at_call 61; (with_reducible refine hst.mono ?_); rintro e w7 ⟨rfl, v2, hL⟩)
      have L1 : Hid (Lo w1 lo hi b rb hq A' A [bx gp TP #[.pointer (some ⟨b, 0, none⟩), .pointer (some ⟨rb, 0, none⟩)], lM g (.slice As 6 cs) s3 [(0, 6), (1, 6)], rd .i64 us1 [2], rd .i64 us2 [0, 1], dM gd v2 (dB ps1 st) (dS ps1 st) (dX A1 (ps1.map Prod.snd) st x)] w7) := Lib.hid hL
      clear hL hst HI HD L0
      go_roundw
      case rel => exact ⟨i + 1, A', v2, _, _, _, by omega, by go_num, HI2, HD2, L1⟩
      case measure => (first | (simp [intOf]; omega) | simp [intOf])
    · obtain rfl : i = 3 := by omega
      have h3 := dI_three HC.out.2.1
      rw [HI.out] at h3
      have HA7 : Hid (A1 7 = [65539, 4, 6, 0]) := Lib.hid h3.1
      have hpn : ps1.length = 0 := by have := congrArg List.length h3.2; simpa using this
      clear h3 hlt HI
      have hdn := dx_done (i := 4) (D := true) L0.out rfl (Lib.hid (decide_eq_true hpn))
      have hlf := dx_left (i := 4) (z := 0) L0.out rfl (Lib.hid (by rw [hpn]; rfl))
      have hbk := x_blocks (i := 1) (n := 2) L0.out rfl rfl (by decide)
      have HS := Lib.hid HD.out.six
      clear HD
      have hk1 : ∀ wx Ab cb, Lo w1 lo hi b rb hq A1 A [bx gp TP #[.pointer (some ⟨b, 0, none⟩), .pointer (some ⟨rb, 0, none⟩)], lM g (.slice As 6 cs) s3 [(0, 6), (1, 6)], rd .i64 us1 [2], rd .i64 us2 [0, 1], dM gd v1 ps1 st x, rv TI 1 (.slice Ab 2 cb) 2 (is [0, 1])] wx → Calls Try.prog 47 #[.slice Ab 2 cb, .slice (some ⟨wx.heap.size, 0, none⟩) 2 2] (wx.alloc (.cells #[.int .i64 0, .int .i64 1] TI)) _ := fun wx Ab cb h => k_ints _ _ _ [0, 1] (rdi_rv ((h.alloc _).is 5 _ rfl)) (rdi_of ((Lo.lit h [0, 1] (by decide)).is 6 _ rfl)) (by decide)
      have hvs : ∀ wx Ab cb nw, Lo w1 lo hi b rb hq A1 A [bx gp TP #[.pointer (some ⟨b, 0, none⟩), .pointer (some ⟨rb, 0, none⟩)], lM g (.slice As 6 cs) s3 [(0, 6), (1, 6)], rd .i64 us1 [2], rd .i64 us2 [0, 1], dM gd v1 ps1 st x, rv TI 1 (.slice Ab 2 cb) 2 (is [0, 1])] wx → Calls Try.prog 64 #[.pointer (some ⟨g, 0, none⟩)] ((wx.alloc (.cells #[.int .i64 0, .int .i64 1] TI)).drewN nw) _ := fun wx Ab cb nw h => x_versions (i := 1) (n := 2) ((h.alloc _).drewN nw) rfl rfl (by decide)
      have hk2 : ∀ wx Ab cb Av cv, Lo w1 lo hi b rb hq A1 A [bx gp TP #[.pointer (some ⟨b, 0, none⟩), .pointer (some ⟨rb, 0, none⟩)], lM g (.slice As 6 cs) s3 [(0, 6), (1, 6)], rd .i64 us1 [2], rd .i64 us2 [0, 1], dM gd v1 ps1 st x, rv TI 1 (.slice Ab 2 cb) 2 (is [0, 1]), rv TI 1 (.slice Av 2 cv) 2 (is [6, 6])] wx → Calls Try.prog 47 #[.slice Av 2 cv, .slice (some ⟨wx.heap.size, 0, none⟩) 2 2] (wx.alloc (.cells #[.int .i64 6, .int .i64 6] TI)) _ := fun wx Ab cb Av cv h => k_ints _ _ _ [6, 6] (rdi_rv ((h.alloc _).is 6 _ rfl)) (rdi_of ((Lo.lit h [6, 6] (by decide)).is 7 _ rfl)) (by decide)
      have him : ∀ wx Ab cb Av cv nw, Lo w1 lo hi b rb hq A1 A [bx gp TP #[.pointer (some ⟨b, 0, none⟩), .pointer (some ⟨rb, 0, none⟩)], lM g (.slice As 6 cs) s3 [(0, 6), (1, 6)], rd .i64 us1 [2], rd .i64 us2 [0, 1], dM gd v1 ps1 st x, rv TI 1 (.slice Ab 2 cb) 2 (is [0, 1]), rv TI 1 (.slice Av 2 cv) 2 (is [6, 6])] wx → ((wx.alloc (.cells #[.int .i64 6, .int .i64 6] TI)).drewN nw).cell? ⟨gp, 0, none⟩ = some (.pointer (some ⟨b, 0, none⟩)) ∧ Calls Try.prog 17 #[.pointer (some ⟨b, 0, none⟩)] ((wx.alloc (.cells #[.int .i64 6, .int .i64 6] TI)).drewN nw) _ := fun wx Ab cb Av cv nw h => ⟨((h.alloc _).drewN nw).c 0 0 rfl rfl, lo_imageH ((h.alloc _).drewN nw) HS.out.l3 HS.out.l4 HS.out.l5⟩
      have hrd : ∀ wx vh, Rd wx vh (A1 7) → ∃ gh oh ch, vh = .slice (some ⟨gh, oh, none⟩) 4 ch ∧ wx.cell? ⟨gh, oh, none⟩ = some (.int .u64 65539) := fun wx vh h => by
        rw [HA7.out] at h
        obtain ⟨p, cap, rfl, hc⟩ := h
        obtain ⟨g9, o9, rfl, hx⟩ := hc 0 65539 rfl
        exact ⟨g9, o9, cap, rfl, hx⟩
      go_wp2_with (first
        | (go_at_call 58; (with_reducible refine hdn.mono ?_); rintro e y1 ⟨rfl, rfl⟩)
        | (go_at_call 60; (with_reducible refine hlf.mono ?_); rintro e y2 ⟨rfl, rfl⟩)
        | (go_at_call 63; (with_reducible refine hbk.mono ?_); rintro e y3 ⟨Ab, cb, rfl, hL3⟩; have hk1 := hk1 _ _ _ hL3)
        | (go_at_call 47; (with_reducible refine hk1.mono ?_); rintro e y4 ⟨rfl, n1, rfl⟩; have hvs := hvs _ _ _ n1 hL3)
        | (go_at_call 64; (with_reducible refine hvs.mono ?_); rintro e y5 ⟨Av, cv, rfl, hL5⟩; have hk2 := hk2 _ _ _ _ _ hL5)
        | (go_at_call 47; (with_reducible refine hk2.mono ?_); rintro e y6 ⟨rfl, n2, rfl⟩; obtain ⟨q0, him⟩ := him _ _ _ _ _ n2 hL5)
        | (go_at_call 17; (with_reducible refine him.mono ?_); rintro e y7 ⟨ic, it, is9, vd, vo, vl, vh, vn, rfl, _, _, _, hH, _, hL7⟩; obtain ⟨gh, oh, ch, rfl, q1⟩ := hrd _ _ hH; have hfd := fld_head vd vo vl (.slice (some ⟨gh, oh, none⟩) 4 ch) vn ic it is9))
      have HF := Lib.hid (below_trans2 HB1.out hL7.old)
      clear hL7 hL5 hL3 hH q1 hfd q0
      go_ret
      exact ⟨rfl, HF.out⟩
end Go.Proofs.Ytpjbmbipkmpkhaa.LmL
namespace Go.Proofs.Ytpjbmbipkmpkhaa.LmK
open Go.ChangeShapes Go.WideShapes Go.ChangeAt Go.RowKit
open LawFrame PlainT BlkW LayS LayA LayF LayH LayK CelS CelM CelP CelV CelN CelO CelI CelQ LabD LabR LabP LabS LabX LabN CelLo RsA ObjA ClnA FreP FreQ FreV FreC FreI FreA FreB LmP LmA LmB LmC LmD LmE LmF LmL
set_option linter.unusedVariables false
set_option maxHeartbeats 1000000
set_option maxRecDepth 100000

theorem own_low {w : World} {B n sz : Nat} {T : TypeId} {v : Value} {xs : List Value} (h : w.ownsRow B T sz v n xs) : w.ownsRow 0 T sz v n xs := by
  refine ⟨h.1, ?_⟩
  rcases h.2 with h2 | ⟨g, cap, cur, h1, h2, h3⟩
  · exact .inl h2
  · exact .inr ⟨g, cap, cur, h1, Nat.zero_le _, h3⟩
theorem rds_take {K : IntKind} {w : World} {p : Option Addr} {n c m : Nat} {xs : List Int} (h : RdS K w (.slice p n c) xs) (hm : m ≤ n) : RdS K w (.slice p m c) (xs.take m) := by
  obtain ⟨p2, c2, e, h1, h2, hc⟩ := h
  injection e with e1 e2 e3
  subst e1 e2 e3
  refine ⟨p, c, by rw [List.length_take, Nat.min_eq_left hm], by rw [List.length_take]; omega, h2, fun j x hj => hc j x ?_⟩
  rw [List.getElem?_take] at hj
  split at hj
  · exact hj
  · cases hj
theorem rdr_take {K : IntKind} {w : World} {p : Option Addr} {n c m : Nat} {xs : List Int} (h : RdR K w (.slice p n c) xs) (hm : m ≤ n) : RdR K w (.slice p m c) (xs.take m) := by
  refine ⟨rds_take h.slice hm, fun g hg => h.lt g ?_⟩
  cases p with
  | none => cases hg
  | some a => exact hg
/-- A slice cut behind its first elements. -/
theorem cut_run {T ts : TypeId} (hu : Try.prog.underlying ts = some (.slice T)) (hz : ∀ wx : World, (sizeOf (Try.prog.elem ts)).run Try.prog wx = .ok 1 wx) (p : Option Addr) (n c m : Nat) (h2 : m ≤ c) (wx : World) : (Instr.slice ts (.slice p n c) none (some (.int .i64 m)) none).run Try.prog wx = .ok (.slice p m c) wx := by
  have he : Try.prog.elem ts = T := by simp [Program.elem, hu]
  rw [run_slice_h (P := Try.prog) (w := wx) ts p n c (by rw [he]; exact hu) .i64 m (by omega) (by omega), hz wx]
  simp only [Result.andThen, sliced]
  cases p <;> simp [Addr.add]
/-- append of no element. -/
theorem app_none {w : World} {ts : TypeId} {T : TypeId} {i : TypeInfo} {z : Value} (ht : Try.prog.underlying ts = some (.slice T)) (hi : Try.prog.info? T = some i) (hz : i.zero = some z) (p p2 : Option Addr) (n c c2 : Nat) (hn : n ≤ c) (hc : c ≤ maxLen) : (Builtin.append_ #[ts, ts] ts #[.slice p n c, .slice p2 0 c2]).run Try.prog w = .ok (.slice p n c) w := by
  have hf : (Builtin.firstCells i.size 0 (.slice p2 0 c2)).run Try.prog w = .ok #[] w := by
    cases p2 with
    | none => exact run_firstCells_none _ _ _ _ _
    | some a => exact run_firstCells_some (w := w) (P := Try.prog) (size := i.size) (n := 0) (b := a) (len := 0) (cap := c2) (cs := []) (by simp) (by simp)
  cases p <;> simp [Builtin.append_, run_underlying ht, sizeOf, typeInfo, hi, Builtin.lenOf, hn, hf, storeCells]
section
variable {w0 w w' : World} {lo hi b rb : Nat} {q : Cfg} {A B : Int → List Int} {X rs : List Ob}
theorem Lo.appI (h : Lo w0 lo hi b rb q A B (X ++ rs) w) (k : Nat) {v v2 : Value} {n m : Nat} {xs ys : List Int} (he : rs[k]? = some (rv TI 1 v n (is xs))) (h2 : RdS .i64 w v2 ys) (hm : ys.length = m) (hn : n + m ≤ 300000) :
    ∃ Aa c w', (Builtin.append_ #[47, 47] 47 #[v, v2]).run Try.prog w = .ok (.slice Aa (n + m) c) w' ∧ Lo w0 lo hi b rb q A B (X ++ rs.set k (rv TI 1 (.slice Aa (n + m) c) (n + m) (is (xs ++ ys)))) w' := by
  obtain ⟨i0, hif, hz0, hz1, hz2⟩ := info_i
  have hown : w.ownsRow 0 TI 1 v n (is xs) := h.isR k he
  subst hm
  obtain ⟨p, cap, rfl, hc1, hc2, hc⟩ := h2
  rcases Nat.eq_zero_or_pos ys.length with hy | hy
  · obtain ⟨Aa, c, rfl, h5, h6⟩ := own_slice hown
    have hys : ys = [] := List.eq_nil_of_length_eq_zero hy
    subst hys
    refine ⟨Aa, c, w, app_none Try.underlying47 hif hz0 Aa p n c cap h5 h6, ?_⟩
    have e : rs.set k (rv TI 1 (.slice Aa (n + ([] : List Int).length) c) (n + ([] : List Int).length) (is (xs ++ []))) = rs := by
      rw [List.append_nil]
      exact set_id he
    rw [e]
    exact h
  · obtain ⟨g2, o2, rfl, _⟩ := hc 0 (ys[0]'hy) (List.getElem?_eq_getElem _)
    obtain ⟨v', w', hrun, hown', hgr, _, hat⟩ := run_append_own_at (P := Try.prog) (w := w) 0 47 47 TI i0 _ 1 8 Try.underlying47 hif hz0 hz1 hz2 rfl (by decide) v n (is xs) hown ⟨g2, o2, none⟩ ys.length cap (is ys) (by simp [is]) (fun j u hj => by
      unfold is at hj
      rw [List.getElem?_map] at hj
      cases hx : ys[j]? with
      | none => rw [hx] at hj; cases hj
      | some y =>
        rw [hx] at hj
        injection hj with hj
        obtain ⟨g', o', e, hy'⟩ := hc j y hx
        injection e with e
        injection e with e1 e3
        rw [← hj, add_off, e1, e3]
        exact hy') (by
      intro u hu
      obtain ⟨y, _, rfl⟩ := List.mem_map.1 hu
      rfl) (by unfold maxLen; omega) (by omega) (Nat.zero_le _)
    obtain ⟨Aa, c, rfl, _⟩ := own_slice hown'
    refine ⟨Aa, c, w', hrun, ?_⟩
    have hb' : Below 0 w w' := (Below.refl 0 w).grown hgr (Nat.zero_le _) (fun k hk => (own_row hown k hk).1)
    have hf : ∀ g2, g2 < w.heap.size → v.ownBlock ≠ some g2 → w'.heap[g2]? = w.heap[g2]? := fun g2 hg2 hne => hgr.block g2 hg2 (fun e => hne e.symm)
    have hvl : ∀ g, v.ownBlock = some g → hi ≤ g := fun g hg => h.hi_ _ _ (rs_at he) g (mem_blk hg)
    have F : Fr (PO lo hi (rv TI 1 v n (is xs))) w w' := ⟨hb'.os, hb'.tape, hb'.output, hb'.size, fun g hg hp => hf g hg fun e => hp (.inr (mem_blk e))⟩
    have e : is (xs ++ ys) = is xs ++ is ys := by simp [is]
    rw [e]
    refine h.stepR k he (h.duo.fr (P := fun x => v.ownBlock = some x) ⟨F.os, F.tape, F.output, F.size, fun g hg hp => hf g hg hp⟩ fun g h1 h2 e => by have := hvl g e; omega) hown' F fun g hg => ?_
    have hgb := blk_mem hg
    rcases hat with hat | hat
    · left
      rw [hat] at hgb
      exact mem_blk hgb
    · right
      rw [hat] at hgb
      injection hgb with hgb
      omega
/-- The empty list, written out. -/
theorem Lo.litN (h : Lo w0 lo hi b rb q A B (X ++ rs) w) : Lo w0 lo hi b rb q A B (X ++ (rs ++ [rv TI 1 (.slice (some ⟨w.heap.size, 0, none⟩) 0 0) 0 (is [])])) (w.alloc (.cells #[] TI)) :=
  h.addR (below_new _ _) (own_low (B := w.heap.size) (World.ownsRow_made w #[] 0 (Nat.le_refl _) (by unfold maxLen; omega) rfl)) fun g hg => by
    have : g = w.heap.size := by simpa [rv, Value.ownBlock] using hg
    omega
end
/-! A pop of block b, the top of the list of class c. -/
def pBox (j c : Nat) (x n : Int) (b : Nat) : Array Value :=
  match j with
  | 0 => #[.int .i64 0, .int .i64 c, .int .u64 0, .int .i64 0, .int .i64 (-1)]
  | 1 => #[.int .i64 1, .int .i64 c, .int .u64 x, .int .i64 0, .int .i64 (-1)]
  | 2 => #[.int .i64 2, .int .i64 c, .int .u64 x, .int .i64 n, .int .i64 (-1)]
  | _ => #[.int .i64 3, .int .i64 c, .int .u64 x, .int .i64 n, .int .i64 b]
def pA (A : Int → List Int) (j c : Nat) (v : Int) : Int → List Int := if j < 3 then A else upd A 7 c v
theorem ch_pop {K : Int} {A : Int → List Int} {T : Nat → Int} {L : Nat → List Nat} (h : Ch K A T L) (hK : 0 ≤ K ∧ K ≤ 1000000) {c b : Nat} {l : List Nat} (hc : c ≤ 3) (hl : L c = b :: l) : Ch (K + 1) (pA A 3 c ((T c + 1) * 65536 + hd l)) (up T c (T c + 1)) (up L c l) := by
  have hA : pA A 3 c ((T c + 1) * 65536 + hd l) = upd A 7 c ((T c + 1) * 65536 + hd l) := if_neg (by decide)
  rw [hA]
  have hT := h.T0 c hc
  refine ⟨?_, ?_, fun k hk => ?_, fun k hk => ?_, fun k hk => ?_, ?_, ?_, ?_, fun j hj => ?_⟩
  · rw [show upd A 7 c ((T c + 1) * 65536 + hd l) 7 = (A 7).set c ((T c + 1) * 65536 + hd l) from if_pos rfl, h.a7, hds_up hc]
  · rw [LabD.upd_ne (by decide)]; exact h.l8
  · rw [LabD.upd_ne (by decide)]
    by_cases e : k = c
    · subst e
      rw [up_at]
      have := h.lin k hk
      rw [hl] at this
      exact this.2
    · rw [up_ne e]
      exact h.lin k hk
  · by_cases e : k = c
    · subst e
      rw [up_at]
      intro x hx
      exact h.lcl k hk x (by rw [hl]; exact List.mem_cons_of_mem _ hx)
    · rw [up_ne e]
      exact h.lcl k hk
  · by_cases e : k = c
    · subst e
      rw [up_at]
      omega
    · rw [up_ne e]
      have := h.T0 k hk
      omega
  · rw [LabD.upd_ne (by decide)]; exact h.l3
  · rw [LabD.upd_ne (by decide)]; exact h.l4
  · rw [LabD.upd_ne (by decide)]; exact h.l5
  · rw [LabD.upd_ne (by decide)] at hj ⊢
    exact h.u8 j hj
theorem lp_pop {w0 w : World} {lo hi b rb : Nat} {A B : Int → List Int} {X rs : List Ob} {g c bk j : Nat} {K : Int} {T : Nat → Int} {L : Nat → List Nat} {l : List Nat} {x n v : Int} (h : Lo w0 lo hi b rb hq (pA A j c v) B (X ++ rs) w) (k : Nat) (he : rs[k]? = some (bx g TPo (pBox j c x n bk))) (hj : j < 3) (hC : Ch K A T L) (hK : K ≤ 1000000) (hc : c ≤ 3) (hl : L c = bk :: l) (hx : Hid (x = T c * 65536 + hd (bk :: l))) (hn : Hid (n = hd l - 1)) (hv : Hid (v = (T c + 1) * 65536 + hd l)) :
    Calls Try.prog 38 #[.pointer (some ⟨g, 0, none⟩), .pointer (some ⟨b, 0, none⟩)] w fun e w' => (∃ u, e = .returned u) ∧ Lo w0 lo hi b rb hq (pA A (j + 1) c v) B (X ++ rs.set k (bx g TPo (pBox (j + 1) c x n bk))) w' := by
  have hA : pA A j c v = A := if_pos hj
  rw [hA] at h
  have hg := Lo.hiR h k he
  have hs := hC.six hK
  have hT := hC.T0 c hc
  have hxx := hx.out
  have hnn := hn.out
  have hvv := hv.out
  have hb6 : bk < 6 := hC.lcl c hc bk (by rw [hl]; exact List.mem_cons_self ..)
  have hll : 0 ≤ hd l ∧ hd l ≤ 6 := hd_in fun b hb => hC.lcl c hc b (by rw [hl]; exact List.mem_cons_of_mem _ hb)
  have h7 : (A 7).getD c 0 = x := by rw [hC.a7, hds_at hc, hl, hxx]
  have hdb : hd (bk :: l) = (bk : Int) + 1 := rfl
  rw [hdb] at hxx
  have h8 : (A 8).getD bk 0 = hd l := by
    have := hC.lin c hc
    rw [hl] at this
    exact this.1
  have h3 : j = 0 ∨ j = 1 ∨ j = 2 := by omega
  rcases h3 with rfl | rfl | rfl
  · have M : Mem w g TPo #[.int .i64 0, .int .i64 c, .int .u64 0, .int .i64 0, .int .i64 (-1)] := h.memR k he
    refine (p_load_some h.duo (.inr hg) 0 0 (-1) c (by rw [hs.l7]; omega) x h7 (by omega) (by omega) (by rw [beq_eq_false_iff_ne]; omega) M).mono ?_
    rintro e w' ⟨he', D, M', F⟩
    exact ⟨⟨_, he'⟩, Lo.turnG h k he D M' F⟩
  · have M : Mem w g TPo #[.int .i64 1, .int .i64 c, .int .u64 x, .int .i64 0, .int .i64 (-1)] := h.memR k he
    refine (p_next h.duo (.inr hg) c x 0 (-1) (by omega) (by omega) bk (by omega) (by rw [hs.l8]; exact hb6) (hd l) h8 hll.1 (by omega) M).mono ?_
    rintro e w' ⟨he', D, M', F⟩
    refine ⟨⟨_, he'⟩, ?_⟩
    rw [← hnn] at M'
    exact Lo.turnG h k he D M' F
  · have M : Mem w g TPo #[.int .i64 2, .int .i64 c, .int .u64 x, .int .i64 n, .int .i64 (-1)] := h.memR k he
    have hxd : x / 65536 = T c := by omega
    have hve : (x / 65536 + 1) % 281474976710656 * 65536 + (n + 1) = v := by
      rw [hxd, Int.emod_eq_of_lt (by omega) (by omega)]
      omega
    refine (p_take_yes h.duo (.inr hg) x n (-1) (by omega) (by omega) (by omega) (by omega) c (by rw [hs.l7]; omega) h7 v hve M).mono ?_
    rintro e w' ⟨he', D, M', F⟩
    refine ⟨⟨_, he'⟩, ?_⟩
    rw [show x % 65536 - 1 = (bk : Int) by omega] at M'
    exact Lo.turnG h k he D M' F
/-! How often each of the six blocks is in a list. -/
def cts (M : List Nat) : List Int := (List.range 6).map fun b => (M.count b : Int)
theorem cts_at {M : List Nat} {b : Nat} (h : b < 6) : (IA (cts M))[b]? = some (.int .i64 (M.count b : Nat)) := by
  simp [IA, cts, h]
theorem cts_nil : List.replicate 6 (0 : Int) = cts [] := rfl
theorem cts_put {M : List Nat} {b : Nat} (h : b < 6) : (IA (cts M)).setIfInBounds b (.int .i64 ((M.count b : Int) + 1)) = IA (cts (M ++ [b])) := by
  apply Array.ext_getElem?
  intro i
  by_cases hi : i < 6
  · rw [cts_at hi]
    by_cases e : b = i
    · subst e
      rw [Array.getElem?_setIfInBounds_self_of_lt (by simp [IA, cts, h])]
      simp [List.count_append]
    · rw [Array.getElem?_setIfInBounds_ne e, cts_at hi]
      have : (M ++ [b]).count i = M.count i := by simp [List.count_append, e]
      rw [this]
  · rw [Array.getElem?_eq_none (by simp [IA, cts]; omega), Array.getElem?_eq_none (by simp [IA, cts]; omega)]
theorem len_counts {l : List Nat} (h : ∀ b ∈ l, b < 6) : l.length = l.count 0 + l.count 1 + l.count 2 + l.count 3 + l.count 4 + l.count 5 := by
  induction l with
  | nil => rfl
  | cons b t ih =>
    have hb := h b (List.mem_cons_self ..)
    have ht := ih fun x hx => h x (List.mem_cons_of_mem _ hx)
    have h6 : b = 0 ∨ b = 1 ∨ b = 2 ∨ b = 3 ∨ b = 4 ∨ b = 5 := by omega
    rcases h6 with rfl | rfl | rfl | rfl | rfl | rfl <;> simp <;> omega
theorem count_zero_of {l : List Nat} {k : Nat} (h : ∀ b ∈ l, b < 6) (hk : 6 ≤ k) : l.count k = 0 := List.count_eq_zero.2 fun hm => by have := h k hm; omega
/-- The lists of the classes before k. -/
def pre (L : Nat → List Nat) : Nat → List Nat
  | 0 => []
  | k + 1 => pre L k ++ L k
theorem tkkp (z : Int) (ws : WL) (k : Nat) : ((tk z ws).map Prod.fst).count k + ((kp z ws).map Prod.fst).count k = (ws.map Prod.fst).count k := by
  induction ws with
  | nil => rfl
  | cons p t ih =>
    unfold tk kp at *
    rw [List.filter_cons, List.filter_cons]
    by_cases h : p.2 ≤ z
    · simp [h, List.count_cons] at *
      omega
    · simp [h, List.count_cons] at *
      omega
theorem kp_gt {z : Int} {ws : WL} {j : Nat} {x : Int} (h : (vsI (kp z ws))[j]? = some x) : z < x := by
  unfold vsI at h
  rw [List.getElem?_map] at h
  cases hp : (kp z ws)[j]? with
  | none => rw [hp] at h; cases h
  | some p =>
    rw [hp] at h
    injection h with h
    have := (List.mem_filter.1 (List.mem_of_getElem? hp)).2
    simp at this
    omega
/-- The last object takes the place of the one at i. -/
theorem Lo.swapAt {w0 w : World} {lo hi b rb i : Nat} {q : Cfg} {A B : Int → List Int} {ex : List Ob} {N : Ob} (h : Lo w0 lo hi b rb q A B (ex ++ [N]) w) (hi_ : i < ex.length) : Lo w0 lo hi b rb q A B (ex.set i N) w := by
  have he : ex[i]? = some (ex[i]'hi_) := List.getElem?_eq_getElem _
  have h1 := h.see i (ex_left he) (o' := nob) trivial fun g hg => absurd hg List.not_mem_nil
  rw [set_left he] at h1
  exact h1.give hi_
theorem pend_push {L : Nat → List Nat} {bs : List Nat} {b : Nat} : pend L (bs ++ [b]) = up (pend L bs) (cl b) (b :: pend L bs (cl b)) := by
  induction bs generalizing L with
  | nil => rfl
  | cons c t ih => exact ih
/-- Heads of which the first k are empty. -/
def hz (k : Nat) : List Int := List.replicate k 0 ++ [1, 4, 6, 0].drop k
theorem hz_set {k : Nat} (h : k < 3) : (hz k).set k 0 = hz (k + 1) := by
  have : k = 0 ∨ k = 1 ∨ k = 2 := by omega
  rcases this with rfl | rfl | rfl <;> decide
theorem hz_len {k : Nat} (h : k < 3) : (hz k).length = 4 := by
  have : k = 0 ∨ k = 1 ∨ k = 2 := by omega
  rcases this with rfl | rfl | rfl <;> rfl
def LN : Nat → List Nat := fun _ => []
theorem ch_zero {A : Int → List Int} (h7 : A 7 = hz 3) (h8 : A 8 = N0) (h3 : (A 3).length = 1) (h4 : (A 4).length = 1) (h5 : (A 5).length = 1) : Ch 0 A T0 LN := by
  refine ⟨by rw [h7]; decide, by rw [h8]; rfl, fun c hc => trivial, fun c hc b hb => absurd hb List.not_mem_nil, fun c hc => by simp [T0], h3, h4, h5, fun j hj => ?_⟩
  rw [h8] at hj ⊢
  have hj6 : j < 6 := hj
  have : j = 0 ∨ j = 1 ∨ j = 2 ∨ j = 3 ∨ j = 4 ∨ j = 5 := by omega
  rcases this with rfl | rfl | rfl | rfl | rfl | rfl <;> decide
/-- Lists of classes as rows. -/
def ro (V : Nat → Value) (W : Nat → List Nat) (c : Nat) : Ob := rv TI 1 (V c) (W c).length (is (bI (W c)))
def sn (bs : List Nat) : Array Value := #[.bool (decide (0 ∈ bs)), .bool (decide (1 ∈ bs)), .bool (decide (2 ∈ bs)), .bool (decide (3 ∈ bs)), .bool (decide (4 ∈ bs)), .bool (decide (5 ∈ bs))]
theorem sn_at {bs : List Nat} {b : Nat} (h : b < 6) : (sn bs)[b]? = some (.bool (decide (b ∈ bs))) := by
  have : b = 0 ∨ b = 1 ∨ b = 2 ∨ b = 3 ∨ b = 4 ∨ b = 5 := by omega
  rcases this with rfl | rfl | rfl | rfl | rfl | rfl <;> rfl
theorem sn_put {bs : List Nat} {b : Nat} (h : b < 6) : (sn bs).setIfInBounds b (.bool true) = sn (bs ++ [b]) := by
  have : b = 0 ∨ b = 1 ∨ b = 2 ∨ b = 3 ∨ b = 4 ∨ b = 5 := by omega
  rcases this with rfl | rfl | rfl | rfl | rfl | rfl <;> simp [sn]
def va (V : Nat → Value) : Array Value := #[V 0, V 1, V 2]
theorem va_at {V : Nat → Value} {k : Nat} (h : k < 3) : (va V)[k]? = some (V k) := by
  have : k = 0 ∨ k = 1 ∨ k = 2 := by omega
  rcases this with rfl | rfl | rfl <;> rfl
theorem va_put {V : Nat → Value} {k : Nat} (h : k < 3) (u : Value) : (va V).setIfInBounds k u = va (up V k u) := by
  have : k = 0 ∨ k = 1 ∨ k = 2 := by omega
  rcases this with rfl | rfl | rfl <;> simp [va, up]
theorem ro_at {V : Nat → Value} {W : Nat → List Nat} {k : Nat} (h : k < 3) (a b c d : Ob) : [a, b, c, d, ro V W 0, ro V W 1, ro V W 2][4 + k]? = some (ro V W k) := by
  have : k = 0 ∨ k = 1 ∨ k = 2 := by omega
  rcases this with rfl | rfl | rfl <;> rfl
theorem ro_set {V : Nat → Value} {W : Nat → List Nat} {k n x : Nat} (h : k < 3) (a b c d : Ob) (u : Value) (hn : n = (W k).length + 1) : [a, b, c, d, ro V W 0, ro V W 1, ro V W 2].set (4 + k) (rv TI 1 u n (is ([(x : Int)] ++ bI (W k)))) = [a, b, c, d, ro (up V k u) (up W k (x :: W k)) 0, ro (up V k u) (up W k (x :: W k)) 1, ro (up V k u) (up W k (x :: W k)) 2] := by
  subst hn
  have : k = 0 ∨ k = 1 ∨ k = 2 := by omega
  rcases this with rfl | rfl | rfl <;> simp [ro, up, bI]
theorem ro_rd {V : Nat → Value} {W : Nat → List Nat} {k : Nat} {w : World} (h : (ro V W k).is w) : RdR .i64 w (V k) (bI (W k)) := by
  have hl : (bI (W k)).length = (W k).length := by simp [bI]
  exact rdr_own (T := TI) (B := 0) (by rw [hl]; exact h)
def w1 (bs : List Nat) : WL := bs.map fun b => (b, (1 : Int))
theorem w1_push {bs : List Nat} {b : Nat} (h : b < 6) : w1 bs ++ adds 1 [(b : Int)] = w1 (bs ++ [b]) := by
  have e : adds 1 [(b : Int)] = [(b, 1)] := by
    simp only [adds, List.filterMap_cons, List.filterMap_nil]
    rw [if_pos ⟨by omega, by omega⟩]
    simp
  rw [e]
  simp [w1]
theorem w1_tk (bs : List Nat) : tk 1 (w1 bs) = w1 bs ∧ kp 1 (w1 bs) = [] := by
  refine ⟨List.filter_eq_self.2 fun p hp => ?_, List.filter_eq_nil_iff.2 fun p hp => ?_⟩
  all_goals
    obtain ⟨b, _, rfl⟩ := List.mem_map.1 hp
    simp
theorem w1_fst (bs : List Nat) : (w1 bs).map Prod.fst = bs := by
  induction bs with
  | nil => rfl
  | cons b t ih => show b :: (w1 t).map Prod.fst = _; rw [ih]
theorem nodup_six {bs : List Nat} (h : bs.Nodup) (h6 : ∀ b ∈ bs, b < 6) : bs.length ≤ 6 := by
  have hc := fun k => List.nodup_iff_count.1 h k
  rw [len_counts h6]
  have := hc 0; have := hc 1; have := hc 2; have := hc 3; have := hc 4; have := hc 5
  omega
theorem pend_nil {bs : List Nat} {c : Nat} (hc : 3 ≤ c) : pend LN bs c = [] := by
  have key : ∀ (L : Nat → List Nat), L c = [] → pend L bs c = [] := by
    intro L
    induction bs generalizing L with
    | nil => exact id
    | cons b t ih =>
      intro h
      refine ih _ ?_
      have := cl_in b
      rw [up_ne (by omega)]
      exact h
  exact key LN rfl
theorem pend_one {bs : List Nat} (h : bs.Nodup) (h6 : ∀ b ∈ bs, b < 6) (c k : Nat) : (pend LN bs c).count k ≤ 1 := by
  rcases Nat.lt_or_ge c 4 with hc | hc
  · have e := sm_pend (L := LN) (bs := bs) (k := k)
    have h1 := List.nodup_iff_count.1 h k
    have h2 : sm LN k = 0 := rfl
    rw [h2] at e
    unfold sm at e
    rcases four (t := c) (by omega) with rfl | rfl | rfl | rfl <;> omega
  · rw [pend_nil (by omega)]
    simp
theorem pend_len {bs : List Nat} (h : bs.Nodup) (h6 : ∀ b ∈ bs, b < 6) (c : Nat) (hc : c ≤ 3) : (pend LN bs c).length ≤ 6 := by
  have hm : ∀ b ∈ pend LN bs c, b < 6 := by
    intro b hb
    refine h6 b ?_
    have e := sm_pend (L := LN) (bs := bs) (k := b)
    have h2 : sm LN b = 0 := rfl
    rw [h2] at e
    have hp := List.count_pos_iff.2 hb
    refine List.count_pos_iff.1 ?_
    unfold sm at e
    rcases four hc with rfl | rfl | rfl | rfl <;> omega
  have h1 := pend_one h h6 c
  rw [len_counts hm]
  have := h1 0; have := h1 1; have := h1 2; have := h1 3; have := h1 4; have := h1 5
  omega
/-! Each block is in exactly one place. -/
structure MI (K : Int) (A : Int → List Int) (T : Nat → Int) (L : Nat → List Nat) (O : List Nat) (ws : WL) : Prop where
  ch : Ch K A T L
  wok : WOk ws
  oin : ∀ b ∈ O, b < 6
  l3 : L 3 = []
  one : ∀ k, k < 6 → O.count k + (ws.map Prod.fst).count k + sm L k = 1
theorem wfst {ws : WL} (h : WOk ws) : ∀ b ∈ ws.map Prod.fst, b < 6 := fun b hb => by
  obtain ⟨p, hp, rfl⟩ := List.mem_map.1 hb
  exact h p hp
section
variable {K K' : Int} {A A' : Int → List Int} {T T' : Nat → Int} {L : Nat → List Nat} {O : List Nat} {ws : WL} {z : Int} {o : Nat}
theorem MI.wl (h : MI K A T L O ws) : ws.length ≤ 6 := by
  have e := len_counts (wfst h.wok)
  rw [List.length_map] at e
  have := h.one 0 (by decide); have := h.one 1 (by decide); have := h.one 2 (by decide); have := h.one 3 (by decide); have := h.one 4 (by decide); have := h.one 5 (by decide)
  omega
theorem MI.ol (h : MI K A T L O ws) : O.length ≤ 6 := by
  have e := len_counts h.oin
  have := h.one 0 (by decide); have := h.one 1 (by decide); have := h.one 2 (by decide); have := h.one 3 (by decide); have := h.one 4 (by decide); have := h.one 5 (by decide)
  omega
theorem MI.l1 (h : MI K A T L O ws) {c : Nat} (hc : c ≤ 3) (k : Nat) : (L c).count k ≤ 1 := by
  rcases Nat.lt_or_ge k 6 with hk | hk
  · have := h.one k hk
    unfold sm at this
    rcases four hc with rfl | rfl | rfl | rfl <;> omega
  · rw [count_zero_of (h.ch.lcl c hc) hk]
    omega
theorem MI.ll (h : MI K A T L O ws) {c : Nat} (hc : c ≤ 3) : (L c).length ≤ 6 := by
  rw [len_counts (h.ch.lcl c hc)]
  have := h.l1 hc 0; have := h.l1 hc 1; have := h.l1 hc 2; have := h.l1 hc 3; have := h.l1 hc 4; have := h.l1 hc 5
  omega
theorem MI.cnt (h : MI K A T L O ws) {k : Nat} (hk : k < 6) : (O ++ ws.map Prod.fst ++ pre L 3).count k = 1 := by
  have := h.one k hk
  unfold sm at this
  rw [h.l3] at this
  simp only [pre, List.count_append, List.nil_append, List.count_nil] at this ⊢
  omega
theorem MI.all (h : MI K A T L O ws) : ∀ b ∈ O ++ ws.map Prod.fst ++ pre L 3, b < 6 := fun b hb => by
  simp only [pre, List.nil_append, List.mem_append] at hb
  rcases hb with (hb | hb) | (hb | hb) | hb
  · exact h.oin b hb
  · exact wfst h.wok b hb
  · exact h.ch.lcl 0 (by omega) b hb
  · exact h.ch.lcl 1 (by omega) b hb
  · exact h.ch.lcl 2 (by omega) b hb
theorem MI.tk (h : MI K A T L O ws) (hK : K ≤ 1000000) : Pd K A T L ((LmP.tk z ws).map Prod.fst) 0 0 ∧ ((LmP.tk z ws).map Prod.fst).length ≤ 6 := by
  have hin : ∀ b ∈ (LmP.tk z ws).map Prod.fst, b < 6 := wfst (wok_tk h.wok)
  have hk := fun k => tkkp z ws k
  refine ⟨Pd.start h.ch hK hin (fun b hb c hc hm => ?_) (List.nodup_iff_count.2 fun b => ?_), ?_⟩
  · have h1 := h.one b (hin b hb)
    have h2 := List.count_pos_iff.2 hb
    have h3 := List.count_pos_iff.2 hm
    have h4 := hk b
    unfold sm at h1
    rcases four hc with rfl | rfl | rfl | rfl <;> omega
  · rcases Nat.lt_or_ge b 6 with hb | hb
    · have h1 := h.one b hb
      have h4 := hk b
      omega
    · rw [count_zero_of hin hb]
      omega
  · have h1 := h.wl
    have h2 := tk_len z ws
    rw [List.length_map]
    omega
theorem pend_three {L : Nat → List Nat} {bs : List Nat} : pend L bs 3 = L 3 := by
  induction bs generalizing L with
  | nil => rfl
  | cons b t ih =>
    show pend (up L (cl b) (b :: L (cl b))) t 3 = _
    rw [ih]
    have := cl_in b
    rw [up_ne (by omega)]
theorem MI.after (h : MI K A T L O ws) (hc : Ch K' A' T' (pend L ((LmP.tk z ws).map Prod.fst))) : MI K' A' T' (pend L ((LmP.tk z ws).map Prod.fst)) O (LmP.kp z ws) := by
  refine ⟨hc, wok_kp h.wok, h.oin, by rw [pend_three]; exact h.l3, fun k hk => ?_⟩
  rw [sm_pend]
  have h1 := h.one k hk
  have h2 := tkkp z ws k
  omega
theorem MI.add (h : MI K A T L (o :: O) ws) : MI K A T L O (ws ++ [(o, z)]) := by
  have ho := h.oin o (List.mem_cons_self ..)
  refine ⟨h.ch, h.wok.app fun p hp => ?_, fun b hb => h.oin b (List.mem_cons_of_mem _ hb), h.l3, fun k hk => ?_⟩
  · rw [List.mem_singleton.1 hp]
    exact ho
  · have h1 := h.one k hk
    rw [List.count_cons] at h1
    rw [List.map_append, List.count_append, List.map_cons, List.map_nil, List.count_cons, List.count_nil]
    show O.count k + ((ws.map Prod.fst).count k + (0 + if (o == k) = true then 1 else 0)) + sm L k = 1
    omega
theorem MI.more (h : MI K A T L O ws) (hk : K ≤ K') : MI K' A T L O ws := ⟨h.ch.more hk, h.wok, h.oin, h.l3, h.one⟩
theorem adds_one {z : Int} {o : Nat} (h : o < 6) : adds z [(o : Int)] = [(o, z)] := by
  simp only [adds, List.filterMap_cons, List.filterMap_nil]
  rw [if_pos ⟨by omega, by omega⟩]
  simp
end
/-! The pops at the beginning: pr k blocks of the classes before k. -/
def pr (k : Nat) : Nat := if k = 0 then 0 else if k = 1 then 3 else if k = 2 then 5 else 6
def cn (k : Nat) : Nat := if k = 0 then 3 else if k = 1 then 2 else 1
theorem pr_next {k : Nat} (h : k < 3) : pr k + cn k = pr (k + 1) := by
  have : k = 0 ∨ k = 1 ∨ k = 2 := by omega
  rcases this with rfl | rfl | rfl <;> rfl
theorem pr_le (k : Nat) : pr k ≤ 6 := by
  unfold pr
  split
  · omega
  · split
    · omega
    · split <;> omega
theorem cn_le (k : Nat) : cn k ≤ 3 := by
  unfold cn
  split
  · omega
  · split <;> omega
theorem l0_drop {k i : Nat} (h : k < 3) (hi : i < cn k) : (LmP.L0 k).drop i = (pr k + i) :: (LmP.L0 k).drop (i + 1) := by
  have : k = 0 ∨ k = 1 ∨ k = 2 := by omega
  rcases this with rfl | rfl | rfl
  · have hi : i < 3 := hi
    have : i = 0 ∨ i = 1 ∨ i = 2 := by omega
    rcases this with rfl | rfl | rfl <;> rfl
  · have hi : i < 2 := hi
    have : i = 0 ∨ i = 1 := by omega
    rcases this with rfl | rfl <;> rfl
  · have hi : i < 1 := hi
    obtain rfl : i = 0 := by omega
    rfl
theorem l0_end {k : Nat} (h : k < 3) : (LmP.L0 k).drop (cn k) = [] := by
  have : k = 0 ∨ k = 1 ∨ k = 2 := by omega
  rcases this with rfl | rfl | rfl <;> rfl
/-- What holds of the lists while class k is popped, i of its blocks already. -/
def Dn (k i : Nat) (L : Nat → List Nat) : Prop := (∀ c, c < k → L c = []) ∧ L k = (LmP.L0 k).drop i ∧ ∀ c, k < c → c ≤ 3 → L c = LmP.L0 c
theorem dn_start : Dn 0 0 LmP.L0 := ⟨fun c hc => by omega, rfl, fun c _ _ => rfl⟩
theorem Dn.pop {k i : Nat} {L : Nat → List Nat} (h : Dn k i L) : Dn k (i + 1) (up L k ((LmP.L0 k).drop (i + 1))) := by
  refine ⟨fun c hc => ?_, up_at _ _ _, fun c hc h3 => ?_⟩
  · rw [up_ne (by omega)]; exact h.1 c hc
  · rw [up_ne (by omega)]; exact h.2.2 c hc h3
theorem Dn.next {k : Nat} {L : Nat → List Nat} (h : Dn k (cn k) L) (hk : k < 3) : Dn (k + 1) 0 L := by
  refine ⟨fun c hc => ?_, h.2.2 (k + 1) (by omega) (by omega), fun c hc h3 => h.2.2 c (by omega) h3⟩
  by_cases e : c = k
  · subst e
    rw [h.2.1, l0_end hk]
  · exact h.1 c (by omega)
theorem Dn.mi {K : Int} {A : Int → List Int} {T : Nat → Int} {L : Nat → List Nat} (h : Dn 3 0 L) (hc : Ch K A T L) : MI K A T L (List.range 6) [] := by
  have h0 := h.1 0 (by omega)
  have h1 := h.1 1 (by omega)
  have h2 := h.1 2 (by omega)
  have h3 : L 3 = [] := h.2.1
  refine ⟨hc, fun p hp => absurd hp List.not_mem_nil, fun b hb => List.mem_range.1 hb, h3, fun k hk => ?_⟩
  unfold sm
  rw [h0, h1, h2, h3]
  have : k = 0 ∨ k = 1 ∨ k = 2 ∨ k = 3 ∨ k = 4 ∨ k = 5 := by omega
  rcases this with rfl | rfl | rfl | rfl | rfl | rfl <;> decide
theorem bI_push (l : List Nat) (b : Nat) : bI l ++ [(b : Int)] = bI (l ++ [b]) := by simp [bI]
theorem bI_app (l m : List Nat) : bI l ++ bI m = bI (l ++ m) := by simp [bI]
theorem bI_at {l : List Nat} {j b : Nat} (h : l[j]? = some b) : (bI l)[j]? = some (b : Int) := by simp [bI, h]
theorem fld_count (wx : World) : (Instr.field 43 (.agg #[.int .i64 20, .int .i64 4, .int .i64 1, .int .i64 3, .int .i64 2, .int .i64 1, .int .i64 0, .int .i64 1, .int .i64 1, .int .i64 0, .int .i64 0, .int .i64 0, .bool false]) 3).run Try.prog wx = .ok (.agg #[.int .i64 3, .int .i64 2, .int .i64 1, .int .i64 0]) wx := by kernel_rfl
theorem idx_count {k : Nat} (h : k < 3) (wx : World) : (Instr.index 41 (.agg #[.int .i64 3, .int .i64 2, .int .i64 1, .int .i64 0]) (.int .i64 k)).run Try.prog wx = .ok (.int .i64 (cn k : Int)) wx := by
  have : k = 0 ∨ k = 1 ∨ k = 2 := by omega
  rcases this with rfl | rfl | rfl <;> (show _ = _; kernel_rfl)
theorem dk_tk {A : Int → List Int} {ws : WL} {z : Int} (h : Six A) (hw : WOk ws) : Dk A ((LmP.tk z ws).map Prod.fst) 0 0 := .start h (wfst (wok_tk hw))
theorem ct_le {M : List Nat} {j n k b : Nat} (hj : j < n) (hn : n ≤ 12 + 6 * k) (hk : k ≤ 3) : (M.take j).count b ≤ 100 := by
  have h9 := List.count_le_length (a := b) (l := M.take j)
  rw [List.length_take] at h9
  omega
theorem ct_wrap {ct : Nat} (h : ct ≤ 100) : wrap64 ((ct : Int) + 1) = (ct : Int) + 1 := IntWalk.wrap64_in _ (by omega)
end Go.Proofs.Ytpjbmbipkmpkhaa.LmK
