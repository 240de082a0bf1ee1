/-
  Proved: a pop finishes without a block only if its list was empty at a load of its head, and with the top block if nobody disturbs it. No condition.
-/
import Derived.Test.YtpnkjdamgkaonaaRows
import Derived.WalkKit
import Derived.ProofKit
import Derived.OpenShut
import Derived.Test.YtpnkjdamgkaonaaFrame
import Derived.Test.YtpnkjdamgkaonaaFreL
import Derived.Deep.RegionHeld3
import Derived.Deep.RegionLaw
namespace Go.Proofs.Ytpnkjdamgkaonaa.freelistEmpty
open Go.ChangeShapes Go.WideShapes Go.ChangeAt Go.RowKit
open LawFrame
open Go.ChangeMaps (open_string)
set_option linter.unusedVariables false

theorem own : ownKnob Try.prog.godebug = none := by kernel_rfl
theorem laidOut : laidOutB Try.prog = true := by kernel_rfl

open PlainT BlkW LayS LayA LayH LayK LayP CelS CelM CelP CelV CelN CelO CelI CelY CelQ LabD LabR LabP LabS LabT FreP FreQ FreV FreC FreI FreA FreS FreW FreL
set_option maxHeartbeats 4000000
set_option maxRecDepth 100000
theorem count_at {k : Nat} (h : k ≤ 3) (w : World) : (Instr.index 30 (.agg #[.int .i64 3, .int .i64 2, .int .i64 1, .int .i64 0]) (.int .i64 k)).run Try.prog w = .ok (.int .i64 ((L0 k).length : Nat)) w := by
  rcases four h with rfl | rfl | rfl | rfl <;> kernel_rfl
theorem field_at (w : World) : (Instr.field 32 (cfgV hq) 3).run Try.prog w = .ok (.agg #[.int .i64 3, .int .i64 2, .int .i64 1, .int .i64 0]) w := by kernel_rfl
theorem l0_chain {k : Nat} (h : k ≤ 3) : Links N0 (L0 k) ∧ (∀ b ∈ L0 k, b < 6) ∧ (L0 k).length ≤ 3 := by
  refine ⟨inv0.lin k h, fun b hb => (inv0.lcl k h b hb).1, ?_⟩
  rcases four h with rfl | rfl | rfl | rfl <;> decide
/-- A pop that nobody disturbs, j steps done: the class has the list l. -/
def Ps (w0 : World) (lo hi b rb g k : Nat) (T : Nat → Int) (L : Nat → List Nat) (l : List Nat) (j : Nat) (w : World) : Prop :=
  match l, j with
  | [], 0 => Fx w0 lo hi b rb (hds T L) N0 w ∧ Mem w g TP1 (oBox 0 k 0 0 (-1))
  | [], _ => Fx w0 lo hi b rb (hds T L) N0 w ∧ Mem w g TP1 (oBox 3 k (T k * 65536) 0 (-1))
  | _ :: _, 0 => Fx w0 lo hi b rb (hds T L) N0 w ∧ Mem w g TP1 (oBox 0 k 0 0 (-1))
  | b0 :: _, 1 => Fx w0 lo hi b rb (hds T L) N0 w ∧ Mem w g TP1 (oBox 1 k (T k * 65536 + (b0 + 1)) 0 (-1))
  | b0 :: l', 2 => Fx w0 lo hi b rb (hds T L) N0 w ∧ Mem w g TP1 (oBox 2 k (T k * 65536 + (b0 + 1)) (hd l' - 1) (-1))
  | b0 :: l', _ => Fx w0 lo hi b rb (hds (up T k (T k + 1)) (up L k l')) N0 w ∧ Mem w g TP1 (oBox 3 k (T k * 65536 + (b0 + 1)) (hd l' - 1) b0)
/-- The last step's number, and whether step j is the last. -/
def fin (l : List Nat) : Nat := if l = [] then 1 else 3
theorem ps_step {w0 W : World} {lo hi b rb g k : Nat} {T : Nat → Int} {L : Nat → List Nat} {l : List Nat} {j : Nat} (hlo : w0.heap.size ≤ lo) (hle : lo ≤ hi) (hg : hi ≤ g) (hk : k ≤ 3) (hl : L k = l) (hlk : Links N0 l) (hb : ∀ b ∈ l, b < 6) (h0 : 0 ≤ T k) (h1 : T k ≤ 1000) (hj : j < fin l) (h : Ps w0 lo hi b rb g k T L l j W) :
    Calls Try.prog 22 #[.pointer (some ⟨g, 0, none⟩), .pointer (some ⟨b, 0, none⟩)] W fun e w' => (∃ v, e = .returned v) ∧ Ps w0 lo hi b rb g k T L l (j + 1) w' ∧ Fr (PG lo hi g) W w' := by
  have hx : (hds T L).getD k 0 = T k * 65536 + hd l := by rw [hds_at hk, hl]
  have hk4 : k < (hds T L).length := by rw [hds_len]; omega
  cases l with
  | nil =>
    have hj : j < 1 := hj
    obtain rfl : j = 0 := by omega
    simp only [hd, Int.add_zero] at hx
    exact (x_none h.1 (.inr hg) (by omega) 0 0 (-1) k hk4 _ hx (by omega) (by omega) (by simp) h.2).mono fun e w' ⟨he, hS, hM, hF⟩ => ⟨⟨_, he⟩, ⟨hS, hM⟩, hF⟩
  | cons b0 l' =>
    have hj : j < 3 := hj
    have hb0 := hb b0 (by simp)
    have hl6 := hd_in (fun b h => hb b (by simp [h]) : ∀ b ∈ l', b < 6)
    have hv : (T k * 65536 + ((b0 : Int) + 1)) % 65536 - 1 = b0 := by omega
    have hd2 : (T k * 65536 + ((b0 : Int) + 1)) / 65536 = T k := by omega
    simp only [hd] at hx
    have : j = 0 ∨ j = 1 ∨ j = 2 := by omega
    rcases this with rfl | rfl | rfl
    · exact (x_load h.1 (.inr hg) (by omega) 0 0 (-1) k hk4 _ hx (by omega) (by omega) (by simp; omega) h.2).mono fun e w' ⟨he, hS, hM, hF⟩ => ⟨⟨_, he⟩, ⟨hS, hM⟩, hF⟩
    · exact (x_next h.1 (.inr hg) (by omega) k _ 0 (-1) (by omega) (by omega) b0 hv (by show b0 < 6; exact hb0) _ hlk.1 (by omega) (by omega) h.2).mono fun e w' ⟨he, hS, hM, hF⟩ => ⟨⟨_, he⟩, ⟨hS, hM⟩, hF⟩
    · refine (x_take h.1 (.inr hg) (by omega) _ _ (-1) (by omega) (by omega) (by omega) (by omega) k hk4 hx ((T k + 1) * 65536 + hd l') (by rw [hd2]; omega) b0 hv h.2).mono fun e w' ⟨he, hS, hM, hF⟩ => ⟨⟨_, he⟩, ⟨?_, hM⟩, hF⟩
      rw [hds_up hk] at hS
      exact hS
theorem ps_mem {w0 W : World} {lo hi b rb g k : Nat} {T : Nat → Int} {L : Nat → List Nat} {l : List Nat} {j : Nat} (h : Ps w0 lo hi b rb g k T L l j W) (hj : j ≤ fin l) : ∃ (st : Nat) (x n bl : Int), Mem W g TP1 (oBox st k x n bl) ∧ ((st : Int) == 3) = decide (j = fin l) ∧ (j = 0 → bl = -1) ∧ (j = fin l → bl = hd l - 1) := by
  cases l with
  | nil =>
    have hj : j ≤ 1 := hj
    have : j = 0 ∨ j = 1 := by omega
    rcases this with rfl | rfl
    · exact ⟨0, _, _, _, h.2, by decide, fun _ => rfl, fun h => (by cases h)⟩
    · exact ⟨3, _, _, _, h.2, by decide, fun h => (by cases h), fun _ => (by decide)⟩
  | cons b0 l' =>
    have hj : j ≤ 3 := hj
    have : j = 0 ∨ j = 1 ∨ j = 2 ∨ j = 3 := by omega
    rcases this with rfl | rfl | rfl | rfl
    · exact ⟨0, _, _, _, h.2, rfl, fun _ => rfl, fun h => (by cases h)⟩
    · exact ⟨1, _, _, _, h.2, rfl, fun h => (by cases h), fun h => (by cases h)⟩
    · exact ⟨2, _, _, _, h.2, rfl, fun h => (by cases h), fun h => (by cases h)⟩
    · exact ⟨3, _, _, _, h.2, rfl, fun h => (by cases h), fun _ => by simp only [hd]; omega⟩
theorem ps_fx {w0 W : World} {lo hi b rb g k : Nat} {T : Nat → Int} {L : Nat → List Nat} {l : List Nat} (h : Ps w0 lo hi b rb g k T L l (fin l) W) (hl : L k = l) : ∃ T', (∀ j, j ≠ k → T' j = T j) ∧ (T' k = T k ∨ T' k = T k + 1) ∧ Fx w0 lo hi b rb (hds T' (up L k l.tail)) N0 W := by
  cases l with
  | nil => exact ⟨T, fun _ _ => rfl, .inl rfl, by rw [List.tail_nil, up_same hl]; exact h.1⟩
  | cons b0 l' => exact ⟨up T k (T k + 1), fun j hj => up_ne hj, .inr (up_at _ _ _), h.1⟩

theorem readable : ∀ t ∈ Try.f6.params.toList, Try.prog.readableRec t = true ∧ t < Try.prog.types.size := by
  have h : (Try.f6.params.toList.all fun t => Try.prog.readableRec t && decide (t < Try.prog.types.size)) = true := by kernel_rfl
  intro t ht
  have := List.all_eq_true.1 h t ht
  simpa using this

/-! The walk. -/
theorem walk (w : World) (a0 : Int) (w0 : (Lit.int .i64 a0).wf = true) (a1 : Int) (w1 : (Lit.int .i64 a1).wf = true) :
    Calls Try.prog 6 #[.int .i64 a0, .int .i64 a1] w fun e w' => e = .returned (.bool true) ∧ Kept w w' := by
  clear w0 w1
  go_enter Try.func6, Try.ntmps6
  go_upto_region 2 with (first | (go_at_call 14; refine (l_heap _).mono ?_; rintro e w0 ⟨rfl, hb0⟩; have HB0 := Lib.hid hb0) | (go_at_call 13; refine (l_startn hq (Lib.hid hq_valid) 1 (by decide) (by decide) _).mono ?_; rintro e w1 ⟨A, lo, hi, b, rb, rfl, hst⟩))
  have S0 : Hid (Fx w0 lo hi b rb (hds T0 L0) N0 w1) := Lib.hid (fx_begun hst)
  have hlo := S0.out.lo
  have hle := S0.out.le
  clear hst hb0
  have S1 := Lib.hid (S0.out.alloc (.cells #[.pointer (some ⟨b, 0, none⟩), .pointer (some ⟨rb, 0, none⟩)] TP))
  have HP1 := Lib.hid (Mem.new w1 TP #[.pointer (some ⟨b, 0, none⟩), .pointer (some ⟨rb, 0, none⟩)])
  have hgt := S0.out.top
  obtain ⟨gp, hgp⟩ : ∃ gp, w1.heap.size = gp := ⟨_, rfl⟩
  rw [hgp] at HP1 hgt
  first | rw [hgp] | skip
  obtain ⟨W1, hW⟩ : ∃ W', w1.alloc (.cells #[.pointer (some ⟨b, 0, none⟩), .pointer (some ⟨rb, 0, none⟩)] TP) = W' := ⟨_, rfl⟩
  rw [hW] at S1 HP1
  first | rw [hW] | skip
  clear hW hgp S0
  go_upto_region 5 with (go_at_call 15; refine (k_place_ex _ _ (by omega) (by omega) _).mono ?_; rintro e w2 ⟨u, u0, u1, rfl, rfl⟩)
  obtain ⟨k, hk⟩ : ∃ k : Nat, u = k := ⟨u.toNat, by omega⟩
  subst hk
  have k3 : k ≤ 3 := by omega
  have p0 := HP1.out.cell 0
  simp at p0
  have hx0 : (hds T0 L0).getD k 0 = hd (L0 k) := by rw [hds_at k3]; simp [T0]
  have hc0 := hd_in (l0_chain k3).2.1
  have hm0 : hd (L0 k) % 65536 = hd (L0 k) := by omega
  have hin := Inv.list inv0 k3
  go_upto_region 6 with (first
    | (go_at_call 30; refine (f_image S1.out).mono ?_; rintro e w32 ⟨i1, i2, i3, i4, i5, n1, n2, n3, k1, k2, k3', k4, k5, c, t, s, rfl, o4, o5, hS, hT⟩; have hli := f_list i1 i2 i3 i4 i5 n1 n2 n3 k1 k2 k3' k4 k5 c t s (rd_own o4) (rd_own o5) rfl (by decide) (by decide) k k3 (hd (L0 k)) hx0 (by omega) (by omega))
    | (go_at_call 31; refine hli.mono ?_; rintro e w33 ⟨A9, n9, c9, er, rfl, hb9, hor⟩))
  rw [hm0] at hor
  obtain ⟨rfl, hown⟩ := lst_some hin hor
  obtain ⟨hlk, hb6, hl3⟩ := l0_chain k3
  have hn9 : n9 = (L0 k).length := by
    obtain ⟨A, cap, e, _⟩ := hown
    injection e with e1 e2 e3
    rw [e2, List.length_map]
  subst hn9
  have HO := Lib.hid hown
  have S3 := Lib.hid (hS.below hb9)
  have HP3 := Lib.hid ((mem_fr HP1.out (Fr.of_stay (P := PI lo hi) hT (fun x a c => ⟨a, c⟩)) (by unfold PI; omega)).below hb9 (mem_fr HP1.out (Fr.of_stay (P := PI lo hi) hT (fun x a c => ⟨a, c⟩)) (by unfold PI; omega)).lt)
  have hBB : gp < w32.heap.size := Nat.lt_of_lt_of_le HP1.out.lt hT.size
  obtain ⟨B2, hB2⟩ : ∃ B2, w32.heap.size = B2 := ⟨_, rfl⟩
  rw [hB2] at HO hBB
  clear hor hown hS hT hli o4 o5 hin hm0 hc0 hx0 S1 HP1 p0 hb9 hB2
  have hct := fun w => count_at (k := k) k3 w
  have hfd := field_at
  obtain ⟨l, hl⟩ : ∃ l, L0 k = l := ⟨_, rfl⟩
  rw [hl] at HO hlk hb6 hl3 hct ⊢
  have hHL := Lib.hid hl
  have HLK := Lib.hid hlk
  have HB6 := Lib.hid hb6
  have HTK : Hid (∀ j, T0 j = 0) := Lib.hid fun _ => rfl
  clear hl hlk hb6
  go_upto_region 8 with (go_at_call 14; refine (l_heap _).mono ?_; rintro e w34 ⟨rfl, hb34⟩)
  have S4 := Lib.hid (S3.out.below hb34)
  have HP4 := Lib.hid (HP3.out.below hb34 HP3.out.lt)
  have HO4 := Lib.hid (HO.out.below hb34)
  obtain ⟨v, hv⟩ : ∃ v, pl a1 6 = v := ⟨_, rfl⟩
  have hv5 := pl_in a1 6 (by decide) (by decide)
  rw [hv] at hv5
  have hpl := k_place a1 6 v (by decide) (by decide) hv
  clear S3 HP3 HO hb34 hct hfd hv hl3
  go_wp2_with fail
  go_loopw [8, 10] (fun sv iv wr => ∃ (i : Nat) (l : List Nat) (T : Nat → Int) (L : Nat → List Nat) (A : Option Addr) (c : Nat), iv = .int .i64 i ∧ (i : Int) ≤ v ∧ sv = .slice A l.length c ∧ OwnQ wr B2 (.slice A l.length c) (l.map fun b : Nat => (b : Int)) ∧ L k = l ∧ Links N0 l ∧ (∀ b ∈ l, b < 6) ∧ 0 ≤ T k ∧ T k ≤ i ∧ Fx w0 lo hi b rb (hds T L) N0 wr ∧ Mem wr gp TP #[.pointer (some ⟨b, 0, none⟩), .pointer (some ⟨rb, 0, none⟩)]) (fun _ iv _ => 5 - (intOf iv).toNat)
  case atStart => exact ⟨0, l, T0, L0, _, _, rfl, by omega, rfl, HO4.out, hHL.out, HLK.out, HB6.out, by simp [T0], by simp [T0], S4.out, HP4.out⟩
  case round =>
    clear S4 HP4 HO4 hHL HLK HB6 HTK
    obtain ⟨i, l, T, L, A, c, rfl, hiv, rfl, ho, hl, hlk, hb6, hT0, hT1, hs, hp⟩ := hrel
    have HO := Lib.hid ho
    have HS := Lib.hid hs
    have HP := Lib.hid hp
    have HLK := Lib.hid hlk
    have HB6 := Lib.hid hb6
    have HLL := Lib.hid hl
    clear ho hs hp hlk hb6 hl
    by_cases hlt : (i : Int) < v
    · go_upto_region 12 with (first | (go_at_call 15; refine (hpl _).mono ?_; rintro e w5 ⟨rfl, rfl⟩) | (go_at_call 20; refine (p_new _ _).mono ?_; rintro e w6 ⟨rfl, rfl⟩))
      have HS2 := Lib.hid (HS.out.alloc (.cells #[.int .i64 0, .int .i64 k, .int .u64 0, .int .i64 0, .int .i64 (-1)] TP1))
      have HP2 := Lib.hid (HP.out.alloc (.cells #[.int .i64 0, .int .i64 k, .int .u64 0, .int .i64 0, .int .i64 (-1)] TP1))
      have HO2 := Lib.hid (HO.out.below (below_new wr (.cells #[.int .i64 0, .int .i64 k, .int .u64 0, .int .i64 0, .int .i64 (-1)] TP1)))
      have HM2 := Lib.hid (Mem.new wr TP1 #[.int .i64 0, .int .i64 k, .int .u64 0, .int .i64 0, .int .i64 (-1)])
      have hgt2 := HS.out.top
      have hgp2 := HP.out.lt
      obtain ⟨g, hg⟩ : ∃ g, wr.heap.size = g := ⟨_, rfl⟩
      rw [hg] at HM2 hgt2 hgp2
      first | rw [hg] | skip
      obtain ⟨W2, hW⟩ : ∃ W', wr.alloc (.cells #[.int .i64 0, .int .i64 k, .int .u64 0, .int .i64 0, .int .i64 (-1)] TP1) = W' := ⟨_, rfl⟩
      rw [hW] at HS2 HP2 HO2 HM2
      first | rw [hW] | skip
      clear hW hg HS HP HO
      have hd0 := p_done g _ _ _ _ _ W2 HM2.out
      have hbk := p_block g _ _ _ _ _ W2 HM2.out
      go_upto_region 14 with (first | (go_at_call 24; refine hd0.mono ?_; rintro e w7 ⟨rfl, rfl⟩) | (go_at_call 25; refine hbk.mono ?_; rintro e w8 ⟨rfl, rfl⟩))
      have HPS : Hid (Ps w0 lo hi b rb g k T L l 0 W2) := Lib.hid (by cases l <;> exact ⟨HS2.out, HM2.out⟩)
      clear hd0 hbk HS2 HM2
      have hf3 : fin l ≤ 3 := by unfold fin; split <;> omega
      go_wp2_with fail
      go_loopw [12] (fun jv wq => ∃ j : Nat, j ≤ fin l ∧ jv = .int .i64 j ∧ Ps w0 lo hi b rb g k T L l j wq ∧ Mem wq gp TP #[.pointer (some ⟨b, 0, none⟩), .pointer (some ⟨rb, 0, none⟩)] ∧ OwnQ wq B2 (.slice A l.length c) (l.map fun b : Nat => (b : Int))) (fun jv _ => 4 - (intOf jv).toNat)
      case atStart => exact ⟨0, by omega, rfl, HPS.out, HP2.out, HO2.out⟩
      case round =>
        clear HPS HP2 HO2
        obtain ⟨j, hj, rfl, hps, hp, ho⟩ := hrel
        have HPS := Lib.hid hps
        have HP := Lib.hid hp
        have HO := Lib.hid ho
        clear hps hp ho
        obtain ⟨st, x, n, bl, hm, hst, hbl0, hbl1⟩ := ps_mem HPS.out hj
        have hmt := not_pq (B := B2) hm (by decide)
        have hdn := p_done g _ _ _ _ _ _ hm
        have hbk := p_block g _ _ _ _ _ _ hm
        rw [hst] at hdn
        have HM := Lib.hid hm
        clear hst hm hbl0
        have p0 := HP.out.cell 0
        simp at p0
        by_cases hjf : j < fin l
        · have hj4 : (j : Int) < 4 := by omega
          rw [decide_eq_false (by omega)] at hdn
          have hsp := ps_step hlo hle (by omega) k3 HLL.out HLK.out HB6.out hT0 (by omega) hjf HPS.out
          go_wp2_with (first | (go_at_call 24; refine hdn.mono ?_; rintro e w7 ⟨rfl, rfl⟩) | (go_at_call 22; refine hsp.mono ?_; rintro e w8 ⟨⟨v8, rfl⟩, hps2, hF⟩))
          have HPS2 := Lib.hid hps2
          have HP2 := Lib.hid (mem_fr HP.out hF (by unfold PG; omega))
          have HO2 := Lib.hid (HO.out.fr hF (fun x hx hx2 => by unfold PG at hx2; rcases hx2 with hx2 | rfl; have := hx.1; omega; exact hmt hx))
          clear hps2 hF hsp hdn hbk hmt
          go_roundw
          case rel => exact ⟨j + 1, by omega, by go_num, HPS2.out, HP2.out, HO2.out⟩
          case measure => simp [intOf]; omega
        · obtain rfl : j = fin l := by omega
          rw [decide_eq_true rfl] at hdn
          obtain ⟨T', hTo, hTk, hfx⟩ := ps_fx HPS.out HLL.out
          have hbl := hbl1 rfl
          have HFX := Lib.hid hfx
          clear hfx hbl1 HPS
          cases l with
          | nil =>
            have hf1 : ((fin [] : Nat) : Int) = 1 := rfl
            obtain rfl : bl = -1 := hbl
            go_wp2_with (first | (go_at_call 24; refine hdn.mono ?_; rintro e w7 ⟨rfl, rfl⟩) | (go_at_call 25; refine hbk.mono ?_; rintro e w8 ⟨rfl, rfl⟩))
            go_roundw
            case rel => exact ⟨i + 1, [], T', _, _, _, by go_num, by omega, rfl, HO.out, up_at _ _ _, trivial, fun b hb => by simp at hb, by omega, by omega, HFX.out, HP.out⟩
            case measure => simp [intOf]; omega
          | cons b0 l' =>
            have hf1 : ((fin (b0 :: l') : Nat) : Int) = 3 := rfl
            obtain rfl : bl = b0 := by simp only [hd] at hbl; omega
            obtain ⟨g9, off, cap9, e9, _, hlt9, hc9⟩ := HO.out.cell (by simp)
            injection e9 with e9 e10 e11
            subst e9 e11
            clear e10
            have hcw := hc9 0 b0 (by simp)
            rw [Nat.add_zero] at hcw
            have hlen : ((((b0 :: l').length : Nat) : Int) == 0) = false := by simp; omega
            have hs0 : wr.drew.cell? ⟨g9, off, none⟩ = some (.int .i64 b0) := hcw
            have HO2 := Lib.hid (HO.out.below (below_drewN (Below.refl _ wr) 1))
            have HP2 := Lib.hid (HP.out.drewN 1)
            have HF2 := Lib.hid (HFX.out.drewN 1)
            have hbk2 := p_block g _ _ _ _ _ _ (HM.out.drewN 1)
            rw [show wr.drewN 1 = wr.drew from rfl] at HO2 HP2 HF2 hbk2
            clear hc9
            go_upto_region 21 with (go_at_call 24; refine hdn.mono ?_; rintro e w7 ⟨rfl, rfl⟩)
            go_region_held3 (fun W : World => W.cell? ⟨g9, off, none⟩ = some (.int .i64 b0)) (first | (with_reducible exact hs0) | (with_reducible assumption)) (first | (go_at_call 25; (with_reducible refine hbk2.mono ?_); rintro e w8 ⟨rfl, rfl⟩))
            clear hdn hbk hbk2 hcw hs0 HO HP HFX HM hmt p0
            go_wp2_with fail
            go_roundw
            case rel => exact ⟨i + 1, l', T', _, _, _, by go_num, by omega, rfl, HO2.out.tail _ (fun h => if_neg h), up_at _ _ _, HLK.out.2, fun b hb => HB6.out b (by simp [hb]), by omega, by omega, HF2.out, HP2.out⟩
            case measure => simp [intOf]; omega
    · go_wp2_with (first | (go_at_call 15; refine (hpl _).mono ?_; rintro e w5 ⟨rfl, rfl⟩))
      refine (FreL.l_awake _).mono ?_
      rintro e w6 ⟨rfl, hb6⟩
      have HBF := Lib.hid (below_trans2 HB0.out (below_trans2 HS.out.old hb6))
      clear hb6
      go_wp2
      go_ret
      exact ⟨rfl, .of_below HBF.out⟩

/-! The row's step. -/
set_option maxRecDepth 100000 in
theorem lifted (os : Os) (started : os.Started) (H : Type) (enc : TypeId × Value → H) :
    ReturnsInHanded {} Try.checked os 6 .any (Rows.freelistEmptySpec.pre6 enc Try.prog Try.f6 Rows.freelistEmptyRow.domain false) (Rows.freelistEmptySpec.post enc Try.prog Try.f6 false true false false) := by
  refine returnsInHanded_of_change (C := Try.checked) own started (by kernel_rfl) Try.func6
    (ChangeSpec.witness6 (enc := enc) (C := Try.checked) false ⟨#[], #[.int .i64 0, .int .i64 0], []⟩ 8 (by kernel_rfl) (by kernel_rfl) (by kernel_rfl) (by kernel_rfl)) ?_
  intro W base args ds gs before hval0 hW hcnd _
  have hval : ∀ (j : Nat) t v, Try.f6.params[j]? = some t → args[j]? = some v → Value.okWide Try.prog W .any base t v := hval0
  have hW' := hW
  obtain ⟨p, q, hA0, hV, rfl, hfz, hnd⟩ := hW
  have hA : DataW.TrodAll enc Try.prog W 0 (fun _ => true) true Try.f6.params.toList args.toList ds p := hA0
  rw [Try.params6] at hA hval
  obtain ⟨v0, vs0, d0, ds0, p0, q0, hargs, rfl, rfl, h0, r0⟩ := trodAll_cons hA
  obtain ⟨v1, vs1, d1, ds1, p1, q1, rfl, rfl, rfl, h1, r1⟩ := trodAll_cons r0
  obtain ⟨rfl, rfl, rfl⟩ := trodAll_nil r1
  obtain rfl : args = #[v0, v1] := by cases args; simp_all
  obtain ⟨rfl, rfl⟩ := trodVars_none hV
  have hk : ∀ W', Kept W W' → Rows.freelistEmptySpec.post enc Try.prog Try.f6 false true false false W #[v0, v1] (.bool true) W' := fun W' hb =>
    post_law laidOut readable rfl Try.underlying4 rfl hW' rfl hb
  clear hA0 hval0 hA hW'
  obtain ⟨a0, rfl, rfl, rfl, w0⟩ := open_int Try.underlying3 (hval 0 3 v0 rfl rfl) h0
  obtain ⟨a1, rfl, rfl, rfl, w1⟩ := open_int Try.underlying3 (hval 1 3 v1 rfl rfl) h1
  refine (walk W a0 w0 a1 w1).mono fun e W' ⟨he, hg⟩ => ?_
  subst he
  exact ⟨_, rfl, hk W' hg⟩

theorem over : Rows.freelistEmptyRow.holds Try.pinned (OpenSpec.ofChange Rows.freelistEmptySpec) :=
  OpenClaim.holds_of_wide 6 Try.f6 rfl rfl rfl rfl rfl rfl rfl ⟨rfl, rfl, rfl, rfl, rfl⟩ rfl rfl rfl rfl rfl (by kernel_rfl) Try.func6 (by kernel_rfl)
    (of_decide_eq_true (by kernel_rfl)) (by unfold Func.isWrapper; first | (rw [if_pos (by decide +kernel)]; kernel_rfl) | (rw [if_neg (by decide +kernel)]; exact ⟨rfl, rfl⟩))
    (fun os started H enc _ => lifted os started H enc)

/-- The statement. -/
theorem proved : Rows.FreelistEmptySaid :=
  over
#print axioms proved
end Go.Proofs.Ytpnkjdamgkaonaa.freelistEmpty
