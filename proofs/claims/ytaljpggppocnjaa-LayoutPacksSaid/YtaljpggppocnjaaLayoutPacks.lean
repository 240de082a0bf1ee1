/-
  Proved: in configurations with any numbers of blocks that fit, the blocks lie one behind another from Base on, different blocks have no word in common, and Find is the inverse of First. No condition.
-/
import Derived.Test.YtaljpggppocnjaaRows
import Derived.WalkKit
import Derived.ProofKit
import Derived.OpenShut
import Derived.Test.YtaljpggppocnjaaFrame
import Derived.Test.YtaljpggppocnjaaLayO
import Derived.Test.YtaljpggppocnjaaLayP
import Derived.Test.YtaljpggppocnjaaLayQ
import Derived.Deep.RegionLaw
namespace Go.Proofs.Ytaljpggppocnjaa.layoutPacks
open Go.ChangeShapes Go.WideShapes Go.ChangeAt Go.RowKit
open LawFrame
open Go.ChangeMaps (open_string)
set_option linter.unusedVariables false

theorem own : ownKnob Try.prog.godebug = none := by kernel_rfl
theorem laidOut : laidOutB Try.prog = true := by kernel_rfl

open PlainT BlkW LayS LayA LayD LayF LayG LayH LayK LayO LayP LayQ
set_option maxHeartbeats 4000000
set_option maxRecDepth 100000
/-- What is held while the counts are made: the box of the configuration, that of the counts. -/
def HK (w0 : World) (g h : Nat) (q : Cfg) (cs : Array Value) (w : World) : Prop := Mem w g TC (cells q) ∧ Mem w h 22 cs ∧ g ≠ h ∧ w0.heap.size ≤ g ∧ Below w0.heap.size w0 w
theorem HK.drew {w0 w : World} {g h : Nat} {q : Cfg} {cs : Array Value} (k : HK w0 g h q cs w) : HK w0 g h q cs w.drew := ⟨k.1, k.2.1, k.2.2.1, k.2.2.2.1, below_drewN k.2.2.2.2 1⟩
theorem HK.set0 {w0 w : World} {g h : Nat} {q : Cfg} {cs : Array Value} (k : HK w0 g h q cs w) (v : Int) : HK w0 g h { q with c0 := v } cs (w.setCell ⟨g, 3, none⟩ (.int .i64 v)) :=
  ⟨k.1.set_ 3 _, k.2.1.far (by have := k.2.2.1; show h ≠ g; omega) _, k.2.2.1, k.2.2.2.1, k.2.2.2.2.setCell (by have := k.2.2.2.1; show w0.heap.size ≤ g; omega) _⟩
theorem HK.set1 {w0 w : World} {g h : Nat} {q : Cfg} {cs : Array Value} (k : HK w0 g h q cs w) (v : Int) : HK w0 g h { q with c1 := v } cs (w.setCell ⟨g, 4, none⟩ (.int .i64 v)) :=
  ⟨k.1.set_ 4 _, k.2.1.far (by have := k.2.2.1; show h ≠ g; omega) _, k.2.2.1, k.2.2.2.1, k.2.2.2.2.setCell (by have := k.2.2.2.1; show w0.heap.size ≤ g; omega) _⟩
theorem HK.set2 {w0 w : World} {g h : Nat} {q : Cfg} {cs : Array Value} (k : HK w0 g h q cs w) (v : Int) : HK w0 g h { q with c2 := v } cs (w.setCell ⟨g, 5, none⟩ (.int .i64 v)) :=
  ⟨k.1.set_ 5 _, k.2.1.far (by have := k.2.2.1; show h ≠ g; omega) _, k.2.2.1, k.2.2.2.1, k.2.2.2.2.setCell (by have := k.2.2.2.1; show w0.heap.size ≤ g; omega) _⟩
theorem HK.set3 {w0 w : World} {g h : Nat} {q : Cfg} {cs : Array Value} (k : HK w0 g h q cs w) (v : Int) : HK w0 g h { q with c3 := v } cs (w.setCell ⟨g, 6, none⟩ (.int .i64 v)) :=
  ⟨k.1.set_ 6 _, k.2.1.far (by have := k.2.2.1; show h ≠ g; omega) _, k.2.2.1, k.2.2.2.1, k.2.2.2.2.setCell (by have := k.2.2.2.1; show w0.heap.size ≤ g; omega) _⟩
theorem HK.set4 {w0 w : World} {g h : Nat} {q : Cfg} {cs : Array Value} (k : HK w0 g h q cs w) (v : Int) : HK w0 g h { q with b := v } cs (w.setCell ⟨g, 2, none⟩ (.int .i64 v)) :=
  ⟨k.1.set_ 2 _, k.2.1.far (by have := k.2.2.1; show h ≠ g; omega) _, k.2.2.1, k.2.2.2.1, k.2.2.2.2.setCell (by have := k.2.2.2.1; show w0.heap.size ≤ g; omega) _⟩
/-- What is held after that: the box of the configuration. -/
def HP (w0 : World) (g : Nat) (q : Cfg) (w : World) : Prop := Mem w g TC (cells q) ∧ Below w0.heap.size w0 w
abbrev HeldP (w0 : World) (g : Nat) (q : Cfg) (w : World) : Prop :=
  w.cell? ⟨g, 0, none⟩ = some (.int .i64 q.w) ∧ w.cell? ⟨g, 1, none⟩ = some (.int .i64 q.o) ∧ w.cell? ⟨g, 2, none⟩ = some (.int .i64 q.b) ∧ w.cell? ⟨g, 3, none⟩ = some (.int .i64 q.c0) ∧ w.cell? ⟨g, 4, none⟩ = some (.int .i64 q.c1) ∧ w.cell? ⟨g, 5, none⟩ = some (.int .i64 q.c2) ∧ w.cell? ⟨g, 6, none⟩ = some (.int .i64 q.c3) ∧
    w.cell? ⟨g, 7, none⟩ = some (.int .i64 q.r) ∧ w.cell? ⟨g, 8, none⟩ = some (.int .i64 q.t) ∧ w.cell? ⟨g, 9, none⟩ = some (.int .i64 q.a) ∧ w.cell? ⟨g, 10, none⟩ = some (.int .i64 q.f) ∧ w.cell? ⟨g, 11, none⟩ = some (.int .i64 q.k) ∧ w.cell? ⟨g, 12, none⟩ = some (.bool q.s) ∧ HP w0 g q w
theorem heldp_of {w0 : World} {g : Nat} {q : Cfg} {w : World} (h : HP w0 g q w) : HeldP w0 g q w := by
  obtain ⟨d0, d1, d2, d3, d4, d5, d6, d7, d8, d9, d10, d11, d12⟩ := box_cells h.1
  exact ⟨d0, d1, d2, d3, d4, d5, d6, d7, d8, d9, d10, d11, d12, h⟩
theorem heldp_drew {w0 : World} {g : Nat} {q : Cfg} {w : World} (h : HP w0 g q w) : HeldP w0 g q w.drew := heldp_of ⟨h.1, below_drewN h.2 1⟩
theorem heldp_hp {w0 : World} {g : Nat} {q : Cfg} {w : World} (h : HeldP w0 g q w) : HP w0 g q w := h.2.2.2.2.2.2.2.2.2.2.2.2.2
theorem heldp_keep {w0 : World} {g : Nat} {q : Cfg} {w w' : World} (h : HeldP w0 g q w) (hb : Below w.heap.size w w') : HeldP w0 g q w' := by
  obtain ⟨h1, h2⟩ := heldp_hp h
  exact heldp_of ⟨h1.below hb h1.lt, below_trans2 h2 hb⟩
theorem heldq_keep2 {w0 : World} {g : Nat} {q : Cfg} {w w' : World} (h : HP w0 g q w) (hb : Below w.heap.size w w') : HeldP w0 g q w' := heldp_keep (heldp_of h) hb

theorem readable : ∀ t ∈ Try.f5.params.toList, Try.prog.readableRec t = true ∧ t < Try.prog.types.size := by
  have h : (Try.f5.params.toList.all fun t => Try.prog.readableRec t && decide (t < Try.prog.types.size)) = true := by kernel_rfl
  intro t ht
  have := List.all_eq_true.1 h t ht
  simpa using this

/-! The walk. -/
theorem walk (w : World) (x0_0 x0_1 x0_2 x0_3 x0_4 : Int) (wx0_0 : LayS.InI x0_0) (wx0_1 : LayS.InI x0_1) (wx0_2 : LayS.InI x0_2) (wx0_3 : LayS.InI x0_3) (wx0_4 : LayS.InI x0_4) (x1_0 x1_1 x1_2 x1_3 : Int) (wx1_0 : LayS.InI x1_0) (wx1_1 : LayS.InI x1_1) (wx1_2 : LayS.InI x1_2) (wx1_3 : LayS.InI x1_3) (a2 : Int) (w2 : (Lit.int .i64 a2).wf = true) :
    Calls Try.prog 5 #[.agg #[.int .i64 x0_0, .int .i64 x0_1, .int .i64 x0_2, .int .i64 x0_3, .int .i64 x0_4], .agg #[.int .i64 x1_0, .int .i64 x1_1, .int .i64 x1_2, .int .i64 x1_3], .int .i64 a2] w fun e w' => e = .returned (.bool true) ∧ Kept w w' := by
  show Calls _ _ #[.agg _, .agg _, _] _ _
  clear wx0_0 wx0_1 wx0_2 wx0_3 wx0_4 wx1_0 wx1_1 wx1_2 wx1_3 w2
  have HB0 := Lib.hid (below_new2 w (.cells #[.int .i64 x0_0, .int .i64 x0_1, .int .i64 x0_2, .int .i64 x0_3, .int .i64 x0_4] 28) (.cells #[.int .i64 x1_0, .int .i64 x1_1, .int .i64 x1_2, .int .i64 x1_3] 22))
  have HM0 := Lib.hid (mem_new1 w (.cells #[.int .i64 x0_0, .int .i64 x0_1, .int .i64 x0_2, .int .i64 x0_3, .int .i64 x0_4] 28) 22 #[.int .i64 x1_0, .int .i64 x1_1, .int .i64 x1_2, .int .i64 x1_3])
  go_enter Try.func5, Try.ntmps5
  go_wp2_with fail
  refine (l_config _ _ _ _ _ _).mono ?_
  rintro e w1 ⟨q, rfl, hmade, hb1⟩
  have HB1 := Lib.hid (below_trans2 HB0.out hb1)
  have HM1 := Lib.hid (HM0.out.below hb1 HM0.out.lt)
  have HD := Lib.hid hmade
  have hgl : w.heap.size + 1 < w1.heap.size := HM1.out.lt
  clear hmade hb1
  go_wp2_with fail
  have hk0 : HK w w1.heap.size (w.heap.size + 1) ⟨64, q.o, q.b, q.c0, q.c1, q.c2, q.c3, q.r, q.t, q.a, q.f, q.k, q.s⟩ #[.int .i64 x1_0, .int .i64 x1_1, .int .i64 x1_2, .int .i64 x1_3] (w1.alloc (.cells (cells ⟨64, q.o, q.b, q.c0, q.c1, q.c2, q.c3, q.r, q.t, q.a, q.f, q.k, q.s⟩) TC)) :=
    ⟨Mem.new _ _ _, HM1.out.alloc _, by omega, by omega, HB1.out.alloc (by omega) _⟩
  go_loopw [8, 9] (fun lv kv wr => ∃ (k l c0 c1 c2 c3 : Int), (k = 0 ∨ k = 1 ∨ k = 2 ∨ k = 3 ∨ k = 4) ∧ kv = .int .i64 k ∧ lv = .int .i64 l ∧ 0 ≤ l ∧ l ≤ 64 ∧ Hid (cpart k ⟨64, q.o, q.b, c0, c1, c2, c3, q.r, q.t, q.a, q.f, q.k, q.s⟩ l) ∧ HK w w1.heap.size (w.heap.size + 1) ⟨64, q.o, q.b, c0, c1, c2, c3, q.r, q.t, q.a, q.f, q.k, q.s⟩ #[.int .i64 x1_0, .int .i64 x1_1, .int .i64 x1_2, .int .i64 x1_3] wr) (fun _ kv _ => (4 - intOf kv).toNat)
  case atStart => exact ⟨0, 64, _, _, _, _, .inl rfl, rfl, rfl, by omega, by omega, Lib.hid (part0 _), hk0⟩
  case round =>
    obtain ⟨k, l, c0, c1, c2, c3, hk, rfl, rfl, hl0, hl1, hp, hkr⟩ := hrel
    clear hk0
    obtain ⟨hm, hmc, hne, hge, hbw⟩ := hkr
    rcases hk with rfl | rfl | rfl | rfl | rfl
    · have q1 : IntKind.i64.wrap (l + 1) = l + 1 := IntWalk.i64_in _ (by omega)
      have hkr := (⟨hm, hmc, hne, hge, hbw⟩ : HK w w1.heap.size (w.heap.size + 1) _ _ wr)
      have dx : wr.cell? ⟨w.heap.size + 1, 0, none⟩ = some (.int .i64 x1_0) := hmc.cell 0
      have dc : wr.cell? ⟨w1.heap.size, 3, none⟩ = some (.int .i64 c0) := hm.cell 3
      have df := hm.frozen 3
      obtain ⟨m, hmm⟩ : ∃ m, pl x1_0 (l + 1) = m := ⟨_, rfl⟩
      have hmi := pl_in x1_0 (l + 1) (by omega) (by omega)
      rw [hmm] at hmi
      obtain ⟨m0, m1⟩ := hmi
      have HMM := Lib.hid hmm
      have HS := Lib.hid (HK.set0 hkr (m / 2))
      have HP := Lib.hid (part1 hp.out (c := m / 2) (by omega))
      clear hmm hkr hmc hm hbw
      go_wp2_with fail
      first | go_region_law (first | (go_simp; go_at_call 10; (with_reducible refine (k_place _ _ m (by omega) (by omega) HMM.out _).mono ?_); rintro e w3 ⟨rfl, rfl⟩)) | fail
      all_goals
        go_wp2_with fail
        go_roundw
        case rel => exact ⟨1, l - m / 2, (m / 2), c1, c2, c3, .inr (.inl rfl), rfl, rfl, by omega, by omega, HP, HS.out.drew⟩
        case measure => simp [intOf]
    · have q1 : IntKind.i64.wrap (l / 2 + 1) = l / 2 + 1 := IntWalk.i64_in _ (by omega)
      have hkr := (⟨hm, hmc, hne, hge, hbw⟩ : HK w w1.heap.size (w.heap.size + 1) _ _ wr)
      have dx : wr.cell? ⟨w.heap.size + 1, 1, none⟩ = some (.int .i64 x1_1) := hmc.cell 1
      have dc : wr.cell? ⟨w1.heap.size, 4, none⟩ = some (.int .i64 c1) := hm.cell 4
      have df := hm.frozen 4
      obtain ⟨m, hmm⟩ : ∃ m, pl x1_1 (l / 2 + 1) = m := ⟨_, rfl⟩
      have hmi := pl_in x1_1 (l / 2 + 1) (by omega) (by omega)
      rw [hmm] at hmi
      obtain ⟨m0, m1⟩ := hmi
      have HMM := Lib.hid hmm
      have HS := Lib.hid (HK.set1 hkr (m / 2))
      have HP := Lib.hid (part2 hp.out (c := m / 2) (by omega))
      clear hmm hkr hmc hm hbw
      go_wp2_with fail
      first | go_region_law (first | (go_simp; go_at_call 10; (with_reducible refine (k_place _ _ m (by omega) (by omega) HMM.out _).mono ?_); rintro e w3 ⟨rfl, rfl⟩)) | fail
      all_goals
        go_wp2_with fail
        go_roundw
        case rel => exact ⟨2, l - m / 2 * 2, c0, (m / 2), c2, c3, .inr (.inr (.inl rfl)), rfl, rfl, by omega, by omega, HP, HS.out.drew⟩
        case measure => simp [intOf]
    · have q1 : IntKind.i64.wrap (l / 4 + 1) = l / 4 + 1 := IntWalk.i64_in _ (by omega)
      have hkr := (⟨hm, hmc, hne, hge, hbw⟩ : HK w w1.heap.size (w.heap.size + 1) _ _ wr)
      have dx : wr.cell? ⟨w.heap.size + 1, 2, none⟩ = some (.int .i64 x1_2) := hmc.cell 2
      have dc : wr.cell? ⟨w1.heap.size, 5, none⟩ = some (.int .i64 c2) := hm.cell 5
      have df := hm.frozen 5
      obtain ⟨m, hmm⟩ : ∃ m, pl x1_2 (l / 4 + 1) = m := ⟨_, rfl⟩
      have hmi := pl_in x1_2 (l / 4 + 1) (by omega) (by omega)
      rw [hmm] at hmi
      obtain ⟨m0, m1⟩ := hmi
      have HMM := Lib.hid hmm
      have HS := Lib.hid (HK.set2 hkr (m / 2))
      have HP := Lib.hid (part3 hp.out (c := m / 2) (by omega))
      clear hmm hkr hmc hm hbw
      go_wp2_with fail
      first | go_region_law (first | (go_simp; go_at_call 10; (with_reducible refine (k_place _ _ m (by omega) (by omega) HMM.out _).mono ?_); rintro e w3 ⟨rfl, rfl⟩)) | fail
      all_goals
        go_wp2_with fail
        go_roundw
        case rel => exact ⟨3, l - m / 2 * 4, c0, c1, (m / 2), c3, .inr (.inr (.inr (.inl rfl))), rfl, rfl, by omega, by omega, HP, HS.out.drew⟩
        case measure => simp [intOf]
    · have q1 : IntKind.i64.wrap (l / 8 + 1) = l / 8 + 1 := IntWalk.i64_in _ (by omega)
      have hkr := (⟨hm, hmc, hne, hge, hbw⟩ : HK w w1.heap.size (w.heap.size + 1) _ _ wr)
      have dx : wr.cell? ⟨w.heap.size + 1, 3, none⟩ = some (.int .i64 x1_3) := hmc.cell 3
      have dc : wr.cell? ⟨w1.heap.size, 6, none⟩ = some (.int .i64 c3) := hm.cell 6
      have df := hm.frozen 6
      obtain ⟨m, hmm⟩ : ∃ m, pl x1_3 (l / 8 + 1) = m := ⟨_, rfl⟩
      have hmi := pl_in x1_3 (l / 8 + 1) (by omega) (by omega)
      rw [hmm] at hmi
      obtain ⟨m0, m1⟩ := hmi
      have HMM := Lib.hid hmm
      have HS := Lib.hid (HK.set3 hkr (m / 2))
      have HP := Lib.hid (part4 hp.out (c := m / 2) (by omega))
      clear hmm hkr hmc hm hbw
      go_wp2_with fail
      first | go_region_law (first | (go_simp; go_at_call 10; (with_reducible refine (k_place _ _ m (by omega) (by omega) HMM.out _).mono ?_); rintro e w3 ⟨rfl, rfl⟩)) | fail
      all_goals
        go_wp2_with fail
        go_roundw
        case rel => exact ⟨4, l - m / 2 * 8, c0, c1, c2, (m / 2), .inr (.inr (.inr (.inr (rfl)))), rfl, rfl, by omega, by omega, HP, HS.out.drew⟩
        case measure => simp [intOf]
    · have hkr := (⟨hm, hmc, hne, hge, hbw⟩ : HK w w1.heap.size (w.heap.size + 1) ⟨64, q.o, q.b, c0, c1, c2, c3, q.r, q.t, q.a, q.f, q.k, q.s⟩ _ wr)
      obtain ⟨d0, d1, d2, d3, d4, d5, d6, d7, d8, d9, d10, d11, d12⟩ := box_cells hm
      have df := hm.frozen 2
      obtain ⟨m, hmm⟩ : ∃ m, pl a2 (l + 1) = m := ⟨_, rfl⟩
      have hmi := pl_in a2 (l + 1) (by omega) (by omega)
      rw [hmm] at hmi
      obtain ⟨m0, m1⟩ := hmi
      have HMM := Lib.hid hmm
      have HS := Lib.hid (HK.set4 hkr m)
      have hmd := HD.out
      unfold Made at hmd
      have HV := Lib.hid (part_valid hp.out rfl (by simp only; omega) (by simp only; omega) (by simp only; omega) (by simp only; omega) (by simp only; omega) (by simp only; omega) m0 (by omega))
      have hck := LayB.a_check ⟨64, q.o, m, c0, c1, c2, c3, q.r, q.t, q.a, q.f, q.k, q.s⟩
      rw [chk_iff.2 HV.out] at hck
      clear hmm hkr hmc hm hbw hmd
      go_wp2_with fail
      refine (k_place _ _ m (by omega) (by omega) HMM.out _).mono ?_
      rintro e w3 ⟨rfl, rfl⟩
      go_wp2_with fail
      refine (hck _).mono ?_
      rintro e w4 ⟨rfl, hb4⟩
      have hg4 : w1.heap.size < w4.heap.size := (HS.out.1.below hb4 HS.out.1.lt).lt
      obtain ⟨Q, HQV, hq⟩ : ∃ Q, Hid (Valid Q) ∧ HP w w1.heap.size Q w4 := ⟨_, HV, HS.out.1.below hb4 HS.out.1.lt, below_trans2 HS.out.2.2.2.2 hb4⟩
      have HGE := Lib.hid hge
      clear d0 d1 d2 d3 d4 d5 d6 d7 d8 d9 d10 d11 d12 df hb4 hck HV HS HMM m0 m1 hp hl0 hl1 hne hge
      have hbl := a_blocks Q
      obtain ⟨n0, n1⟩ := blk_in Q
      obtain ⟨n, hn⟩ : ∃ n : Nat, blkV Q = n := ⟨(blkV Q).toNat, by omega⟩
      rw [hn] at hbl n0 n1
      have HN := Lib.hid hn
      clear hn
      go_wp2_with fail
      go_region_held3 (HeldP w w1.heap.size Q) (first | exact heldp_drew hq | exact heldp_keep (by assumption) (by assumption)) ((go_at_call 13; (with_reducible refine (hbl _).mono ?_); rintro e w5 ⟨rfl, hb5⟩))
      all_goals
        have hq2 := heldp_hp (by assumption : HeldP w w1.heap.size Q _)
        clear hq hbl
        go_wp2_with fail
        go_loopw [10, 12] (fun av bv wr => ∃ b : Nat, b ≤ n ∧ bv = .int .i64 b ∧ av = .int .i64 (fstN Q b) ∧ HP w w1.heap.size Q wr) (fun _ bv _ => n - (intOf bv).toNat)
        case atStart => exact ⟨0, by omega, rfl, int_eq (fst_first HQV.out).symm, hq2⟩
        case round =>
          obtain ⟨b, hb, rfl, rfl, hr⟩ := hrel
          clear hq2
          obtain ⟨d0, d1, d2, d3, d4, d5, d6, d7, d8, d9, d10, d11, d12, _⟩ := heldp_of hr
          by_cases hlt : b < n
          · have hb1 : (b : Int) < blkV Q := by have := HN.out; omega
            have HB1' := Lib.hid hb1
            have hcl := a_class Q b
            rw [cls_of (by omega) hb1] at hcl
            have hfi := a_first Q b
            rw [fst_of (by omega) hb1] at hfi
            have hin := fst_in HQV.out (i := (b : Int)) (by omega) (by have := blk_of HQV.out; omega)
            obtain ⟨_, _, g1, g2, g3⟩ := hin
            have hfd := a_find Q (fstN Q b) (by omega) (by omega)
            rw [find_hit HQV.out (by omega) hb1] at hfd
            have HST := Lib.hid (fst_step2 HQV.out (i := (b : Int)) (by omega) (by have := blk_of HQV.out; omega))
            have hc3 := cls_lt Q b
            have HCL := Lib.hid (show clsN Q b = 0 ∨ clsN Q b = 1 ∨ clsN Q b = 2 ∨ clsN Q b = 3 by omega)
            obtain ⟨cc, hcc⟩ : ∃ cc, clsN Q b = cc := ⟨_, rfl⟩
            obtain ⟨f, hf⟩ : ∃ f, fstN Q b = f := ⟨_, rfl⟩
            rw [hcc] at hcl HST HCL g1 g3
            rw [hf] at hfi hfd HST g1 g2
            rw [hf]
            have HF := Lib.hid hf
            have HC0 := Lib.hid hcc
            clear hc3 hcc hf hb1
            have hcl3 := HCL.out
            rcases hcl3 with rfl | rfl | rfl | rfl
            · have HC : Hid (p2 (clsN Q b) = 1) := Lib.hid (by rw [HC0.out]; rfl)
              have HST : Hid (fstN Q ((b : Int) + 1) = f + 1) := HST
              rw [p2_0] at g1 g3
              have hcl : ∀ (w : World), Calls Try.prog 14 #[cfgV Q, .int .i64 b] w fun e w' => e = .returned (.int .i64 0) ∧ Below w.heap.size w w' := hcl
              go_wp2_with (first | (go_at_call 14; (with_reducible refine (hcl _).mono ?_); rintro e wx ⟨rfl, hbx⟩; clear d0 d1 d2 d3 d4 d5 d6 d7 d8 d9 d10 d11 d12; obtain ⟨d0, d1, d2, d3, d4, d5, d6, d7, d8, d9, d10, d11, d12, hr1⟩ := heldq_keep2 hr hbx; clear hbx) | (go_at_call 15; (with_reducible refine (hfi _).mono ?_); rintro e wx ⟨rfl, hbx⟩; clear d0 d1 d2 d3 d4 d5 d6 d7 d8 d9 d10 d11 d12; obtain ⟨d0, d1, d2, d3, d4, d5, d6, d7, d8, d9, d10, d11, d12, hr2⟩ := heldq_keep2 hr1 hbx; clear hbx) | (go_at_call 16; (with_reducible refine (hfd _).mono ?_); rintro e wx ⟨rfl, hbx⟩; clear d0 d1 d2 d3 d4 d5 d6 d7 d8 d9 d10 d11 d12; obtain ⟨d0, d1, d2, d3, d4, d5, d6, d7, d8, d9, d10, d11, d12, hr3⟩ := heldq_keep2 hr2 hbx; clear hbx))
              obtain ⟨wo, hwo⟩ : ∃ wo : World, wo = wr := ⟨_, rfl⟩
              clear hwo wo
              clear d0 d1 d2 d3 d4 d5 d6 d7 d8 d9 d10 d11 d12
              go_loopw [14] (fun iv wi => ∃ i : Int, 1 ≤ i ∧ i ≤ 1 ∧ iv = .int .i64 i ∧ HP w w1.heap.size Q wi) (fun iv _ => (1 - intOf iv).toNat)
              case atStart => exact ⟨1, by omega, by omega, rfl, hr3⟩
              case round =>
                obtain ⟨i, i0, i1, rfl, hri⟩ := hrel
                clear hr3
                obtain ⟨d0, d1, d2, d3, d4, d5, d6, d7, d8, d9, d10, d11, d12, _⟩ := heldp_of hri
                by_cases hi : i < 1
                · have hfx := a_find Q (f + i) (by omega) (by omega)
                  rw [show findV Q (f + i) = -1 by have := find_inside HQV.out (b := (b : Int)) (i := i) (by omega) (by have := HN.out; omega) (by omega) (by rw [HC.out]; exact hi); rwa [HF.out] at this] at hfx
                  go_wp2_with (go_at_call 16; (with_reducible refine (hfx _).mono ?_); rintro e wx ⟨rfl, hbx⟩; clear d0 d1 d2 d3 d4 d5 d6 d7 d8 d9 d10 d11 d12; obtain ⟨d0, d1, d2, d3, d4, d5, d6, d7, d8, d9, d10, d11, d12, hr4⟩ := heldq_keep2 hri hbx; clear hbx)
                  go_roundw
                  case rel => exact ⟨i + 1, by omega, by omega, rfl, hr4⟩
                  case measure => simp [intOf]; omega
                · obtain rfl : i = 1 := by omega
                  go_wp2
                  go_roundw
                  case rel => exact ⟨b + 1, by omega, by go_num, int_eq (by rw [show ((b + 1 : Nat) : Int) = (b : Int) + 1 from by omega, HST.out]), hri⟩
                  case measure => simp [intOf]; omega
            · have HC : Hid (p2 (clsN Q b) = 2) := Lib.hid (by rw [HC0.out]; rfl)
              have HST : Hid (fstN Q ((b : Int) + 1) = f + 2) := HST
              rw [p2_1] at g1 g3
              have hcl : ∀ (w : World), Calls Try.prog 14 #[cfgV Q, .int .i64 b] w fun e w' => e = .returned (.int .i64 1) ∧ Below w.heap.size w w' := hcl
              go_wp2_with (first | (go_at_call 14; (with_reducible refine (hcl _).mono ?_); rintro e wx ⟨rfl, hbx⟩; clear d0 d1 d2 d3 d4 d5 d6 d7 d8 d9 d10 d11 d12; obtain ⟨d0, d1, d2, d3, d4, d5, d6, d7, d8, d9, d10, d11, d12, hr1⟩ := heldq_keep2 hr hbx; clear hbx) | (go_at_call 15; (with_reducible refine (hfi _).mono ?_); rintro e wx ⟨rfl, hbx⟩; clear d0 d1 d2 d3 d4 d5 d6 d7 d8 d9 d10 d11 d12; obtain ⟨d0, d1, d2, d3, d4, d5, d6, d7, d8, d9, d10, d11, d12, hr2⟩ := heldq_keep2 hr1 hbx; clear hbx) | (go_at_call 16; (with_reducible refine (hfd _).mono ?_); rintro e wx ⟨rfl, hbx⟩; clear d0 d1 d2 d3 d4 d5 d6 d7 d8 d9 d10 d11 d12; obtain ⟨d0, d1, d2, d3, d4, d5, d6, d7, d8, d9, d10, d11, d12, hr3⟩ := heldq_keep2 hr2 hbx; clear hbx))
              obtain ⟨wo, hwo⟩ : ∃ wo : World, wo = wr := ⟨_, rfl⟩
              clear hwo wo
              clear d0 d1 d2 d3 d4 d5 d6 d7 d8 d9 d10 d11 d12
              go_loopw [14] (fun iv wi => ∃ i : Int, 1 ≤ i ∧ i ≤ 2 ∧ iv = .int .i64 i ∧ HP w w1.heap.size Q wi) (fun iv _ => (2 - intOf iv).toNat)
              case atStart => exact ⟨1, by omega, by omega, rfl, hr3⟩
              case round =>
                obtain ⟨i, i0, i1, rfl, hri⟩ := hrel
                clear hr3
                obtain ⟨d0, d1, d2, d3, d4, d5, d6, d7, d8, d9, d10, d11, d12, _⟩ := heldp_of hri
                by_cases hi : i < 2
                · have hfx := a_find Q (f + i) (by omega) (by omega)
                  rw [show findV Q (f + i) = -1 by have := find_inside HQV.out (b := (b : Int)) (i := i) (by omega) (by have := HN.out; omega) (by omega) (by rw [HC.out]; exact hi); rwa [HF.out] at this] at hfx
                  go_wp2_with (go_at_call 16; (with_reducible refine (hfx _).mono ?_); rintro e wx ⟨rfl, hbx⟩; clear d0 d1 d2 d3 d4 d5 d6 d7 d8 d9 d10 d11 d12; obtain ⟨d0, d1, d2, d3, d4, d5, d6, d7, d8, d9, d10, d11, d12, hr4⟩ := heldq_keep2 hri hbx; clear hbx)
                  go_roundw
                  case rel => exact ⟨i + 1, by omega, by omega, rfl, hr4⟩
                  case measure => simp [intOf]; omega
                · obtain rfl : i = 2 := by omega
                  go_wp2
                  go_roundw
                  case rel => exact ⟨b + 1, by omega, by go_num, int_eq (by rw [show ((b + 1 : Nat) : Int) = (b : Int) + 1 from by omega, HST.out]), hri⟩
                  case measure => simp [intOf]; omega
            · have HC : Hid (p2 (clsN Q b) = 4) := Lib.hid (by rw [HC0.out]; rfl)
              have HST : Hid (fstN Q ((b : Int) + 1) = f + 4) := HST
              rw [p2_2] at g1 g3
              have hcl : ∀ (w : World), Calls Try.prog 14 #[cfgV Q, .int .i64 b] w fun e w' => e = .returned (.int .i64 2) ∧ Below w.heap.size w w' := hcl
              go_wp2_with (first | (go_at_call 14; (with_reducible refine (hcl _).mono ?_); rintro e wx ⟨rfl, hbx⟩; clear d0 d1 d2 d3 d4 d5 d6 d7 d8 d9 d10 d11 d12; obtain ⟨d0, d1, d2, d3, d4, d5, d6, d7, d8, d9, d10, d11, d12, hr1⟩ := heldq_keep2 hr hbx; clear hbx) | (go_at_call 15; (with_reducible refine (hfi _).mono ?_); rintro e wx ⟨rfl, hbx⟩; clear d0 d1 d2 d3 d4 d5 d6 d7 d8 d9 d10 d11 d12; obtain ⟨d0, d1, d2, d3, d4, d5, d6, d7, d8, d9, d10, d11, d12, hr2⟩ := heldq_keep2 hr1 hbx; clear hbx) | (go_at_call 16; (with_reducible refine (hfd _).mono ?_); rintro e wx ⟨rfl, hbx⟩; clear d0 d1 d2 d3 d4 d5 d6 d7 d8 d9 d10 d11 d12; obtain ⟨d0, d1, d2, d3, d4, d5, d6, d7, d8, d9, d10, d11, d12, hr3⟩ := heldq_keep2 hr2 hbx; clear hbx))
              obtain ⟨wo, hwo⟩ : ∃ wo : World, wo = wr := ⟨_, rfl⟩
              clear hwo wo
              clear d0 d1 d2 d3 d4 d5 d6 d7 d8 d9 d10 d11 d12
              go_loopw [14] (fun iv wi => ∃ i : Int, 1 ≤ i ∧ i ≤ 4 ∧ iv = .int .i64 i ∧ HP w w1.heap.size Q wi) (fun iv _ => (4 - intOf iv).toNat)
              case atStart => exact ⟨1, by omega, by omega, rfl, hr3⟩
              case round =>
                obtain ⟨i, i0, i1, rfl, hri⟩ := hrel
                clear hr3
                obtain ⟨d0, d1, d2, d3, d4, d5, d6, d7, d8, d9, d10, d11, d12, _⟩ := heldp_of hri
                by_cases hi : i < 4
                · have hfx := a_find Q (f + i) (by omega) (by omega)
                  rw [show findV Q (f + i) = -1 by have := find_inside HQV.out (b := (b : Int)) (i := i) (by omega) (by have := HN.out; omega) (by omega) (by rw [HC.out]; exact hi); rwa [HF.out] at this] at hfx
                  go_wp2_with (go_at_call 16; (with_reducible refine (hfx _).mono ?_); rintro e wx ⟨rfl, hbx⟩; clear d0 d1 d2 d3 d4 d5 d6 d7 d8 d9 d10 d11 d12; obtain ⟨d0, d1, d2, d3, d4, d5, d6, d7, d8, d9, d10, d11, d12, hr4⟩ := heldq_keep2 hri hbx; clear hbx)
                  go_roundw
                  case rel => exact ⟨i + 1, by omega, by omega, rfl, hr4⟩
                  case measure => simp [intOf]; omega
                · obtain rfl : i = 4 := by omega
                  go_wp2
                  go_roundw
                  case rel => exact ⟨b + 1, by omega, by go_num, int_eq (by rw [show ((b + 1 : Nat) : Int) = (b : Int) + 1 from by omega, HST.out]), hri⟩
                  case measure => simp [intOf]; omega
            · have HC : Hid (p2 (clsN Q b) = 8) := Lib.hid (by rw [HC0.out]; rfl)
              have HST : Hid (fstN Q ((b : Int) + 1) = f + 8) := HST
              rw [p2_3] at g1 g3
              have hcl : ∀ (w : World), Calls Try.prog 14 #[cfgV Q, .int .i64 b] w fun e w' => e = .returned (.int .i64 3) ∧ Below w.heap.size w w' := hcl
              go_wp2_with (first | (go_at_call 14; (with_reducible refine (hcl _).mono ?_); rintro e wx ⟨rfl, hbx⟩; clear d0 d1 d2 d3 d4 d5 d6 d7 d8 d9 d10 d11 d12; obtain ⟨d0, d1, d2, d3, d4, d5, d6, d7, d8, d9, d10, d11, d12, hr1⟩ := heldq_keep2 hr hbx; clear hbx) | (go_at_call 15; (with_reducible refine (hfi _).mono ?_); rintro e wx ⟨rfl, hbx⟩; clear d0 d1 d2 d3 d4 d5 d6 d7 d8 d9 d10 d11 d12; obtain ⟨d0, d1, d2, d3, d4, d5, d6, d7, d8, d9, d10, d11, d12, hr2⟩ := heldq_keep2 hr1 hbx; clear hbx) | (go_at_call 16; (with_reducible refine (hfd _).mono ?_); rintro e wx ⟨rfl, hbx⟩; clear d0 d1 d2 d3 d4 d5 d6 d7 d8 d9 d10 d11 d12; obtain ⟨d0, d1, d2, d3, d4, d5, d6, d7, d8, d9, d10, d11, d12, hr3⟩ := heldq_keep2 hr2 hbx; clear hbx))
              obtain ⟨wo, hwo⟩ : ∃ wo : World, wo = wr := ⟨_, rfl⟩
              clear hwo wo
              clear d0 d1 d2 d3 d4 d5 d6 d7 d8 d9 d10 d11 d12
              go_loopw [14] (fun iv wi => ∃ i : Int, 1 ≤ i ∧ i ≤ 8 ∧ iv = .int .i64 i ∧ HP w w1.heap.size Q wi) (fun iv _ => (8 - intOf iv).toNat)
              case atStart => exact ⟨1, by omega, by omega, rfl, hr3⟩
              case round =>
                obtain ⟨i, i0, i1, rfl, hri⟩ := hrel
                clear hr3
                obtain ⟨d0, d1, d2, d3, d4, d5, d6, d7, d8, d9, d10, d11, d12, _⟩ := heldp_of hri
                by_cases hi : i < 8
                · have hfx := a_find Q (f + i) (by omega) (by omega)
                  rw [show findV Q (f + i) = -1 by have := find_inside HQV.out (b := (b : Int)) (i := i) (by omega) (by have := HN.out; omega) (by omega) (by rw [HC.out]; exact hi); rwa [HF.out] at this] at hfx
                  go_wp2_with (go_at_call 16; (with_reducible refine (hfx _).mono ?_); rintro e wx ⟨rfl, hbx⟩; clear d0 d1 d2 d3 d4 d5 d6 d7 d8 d9 d10 d11 d12; obtain ⟨d0, d1, d2, d3, d4, d5, d6, d7, d8, d9, d10, d11, d12, hr4⟩ := heldq_keep2 hri hbx; clear hbx)
                  go_roundw
                  case rel => exact ⟨i + 1, by omega, by omega, rfl, hr4⟩
                  case measure => simp [intOf]; omega
                · obtain rfl : i = 8 := by omega
                  go_wp2
                  go_roundw
                  case rel => exact ⟨b + 1, by omega, by go_num, int_eq (by rw [show ((b + 1 : Nat) : Int) = (b : Int) + 1 from by omega, HST.out]), hri⟩
                  case measure => simp [intOf]; omega
          · obtain rfl : b = n := by omega
            have hfd := a_find Q (fstN Q b) (by have := fst_end_le HQV.out; rw [HN.out] at this; omega) (by have := fst_end_le HQV.out; rw [HN.out] at this; omega)
            rw [show findV Q (fstN Q b) = -1 by have := find_end HQV.out; rwa [HN.out] at this] at hfd
            have hcl := a_class Q b
            rw [show clsV Q b = -1 by have := cls_end Q; rwa [HN.out] at this] at hcl
            have hend := fst_end_le HQV.out
            rw [HN.out] at hend
            obtain ⟨e0, e1, e2⟩ := hend
            have hsum : (b : Int) = Q.c0 + Q.c1 + Q.c2 + Q.c3 := by rw [← HN.out]; exact blk_of HQV.out
            have hvv := HQV.out
            unfold Valid at hvv
            have z0 : 0 ≤ Q.c0 := by omega
            have z1 : 0 ≤ Q.c1 := by omega
            have z2 : 0 ≤ Q.c2 := by omega
            have z3 : 0 ≤ Q.c3 := by omega
            have y1 : Q.c0 ≤ 64 := by omega
            have y2 : Q.c1 ≤ 64 := by omega
            have y3 : Q.c2 ≤ 64 := by omega
            have y4 : Q.c3 ≤ 64 := by omega
            have hs2 : ((b : Int) == Q.c0 + Q.c1 + Q.c2 + Q.c3) = true := beq_iff_eq.2 hsum
            clear hsum hvv
            generalize fstN Q b = f at *
            go_wp2_with (first | (go_at_call 16; (with_reducible refine (hfd _).mono ?_); rintro e wx ⟨rfl, hbx⟩; clear d0 d1 d2 d3 d4 d5 d6 d7 d8 d9 d10 d11 d12; obtain ⟨d0, d1, d2, d3, d4, d5, d6, d7, d8, d9, d10, d11, d12, hr1⟩ := heldq_keep2 hr hbx; clear hbx) | (go_at_call 14; (with_reducible refine (hcl _).mono ?_); rintro e wx ⟨rfl, hbx⟩; clear d0 d1 d2 d3 d4 d5 d6 d7 d8 d9 d10 d11 d12; obtain ⟨d0, d1, d2, d3, d4, d5, d6, d7, d8, d9, d10, d11, d12, hr2⟩ := heldq_keep2 hr1 hbx; clear hbx) | (go_at_call 8; (with_reducible refine (l_awake _).mono ?_); rintro e wx ⟨rfl, hbx⟩; have hr3 := heldp_hp (heldq_keep2 hr2 hbx)))
            go_ret
            exact ⟨rfl, Kept.of_below hr3.2⟩

/-! The row's step. -/
set_option maxRecDepth 100000 in
theorem lifted (os : Os) (started : os.Started) (H : Type) (enc : TypeId × Value → H) :
    ReturnsInHanded {} Try.checked os 5 .any (Rows.layoutPacksSpec.pre6 enc Try.prog Try.f5 Rows.layoutPacksRow.domain false) (Rows.layoutPacksSpec.post enc Try.prog Try.f5 false true false false) := by
  refine returnsInHanded_of_change (C := Try.checked) own started (by kernel_rfl) Try.func5
    (ChangeSpec.witness6 (enc := enc) (C := Try.checked) false ⟨#[], #[.agg #[.int .i64 0, .int .i64 0, .int .i64 0, .int .i64 0, .int .i64 0], .agg #[.int .i64 0, .int .i64 0, .int .i64 0, .int .i64 0], .int .i64 0], []⟩ 8 (by kernel_rfl) (by kernel_rfl) (by kernel_rfl) (by kernel_rfl)) ?_
  intro W base args ds gs before hval0 hW hcnd _
  have hval : ∀ (j : Nat) t v, Try.f5.params[j]? = some t → args[j]? = some v → Value.okWide Try.prog W .any base t v := hval0
  have hW' := hW
  obtain ⟨p, q, hA0, hV, rfl, hfz, hnd⟩ := hW
  have hA : DataW.TrodAll enc Try.prog W 0 (fun _ => true) true Try.f5.params.toList args.toList ds p := hA0
  rw [Try.params5] at hA hval
  obtain ⟨v0, vs0, d0, ds0, p0, q0, hargs, rfl, rfl, h0, r0⟩ := trodAll_cons hA
  obtain ⟨v1, vs1, d1, ds1, p1, q1, rfl, rfl, rfl, h1, r1⟩ := trodAll_cons r0
  obtain ⟨v2, vs2, d2, ds2, p2, q2, rfl, rfl, rfl, h2, r2⟩ := trodAll_cons r1
  obtain ⟨rfl, rfl, rfl⟩ := trodAll_nil r2
  obtain rfl : args = #[v0, v1, v2] := by cases args; simp_all
  obtain ⟨rfl, rfl⟩ := trodVars_none hV
  have hk : ∀ W', Kept W W' → Rows.layoutPacksSpec.post enc Try.prog Try.f5 false true false false W #[v0, v1, v2] (.bool true) W' := fun W' hb =>
    post_law laidOut readable rfl Try.underlying4 rfl hW' rfl hb
  clear hA0 hval0 hA hW'
  obtain ⟨x0_0, x0_1, x0_2, x0_3, x0_4, rfl, wx0_0, wx0_1, wx0_2, wx0_3, wx0_4⟩ := LayO.open_arr5 (hval 0 28 v0 rfl rfl) h0
  obtain ⟨x1_0, x1_1, x1_2, x1_3, rfl, wx1_0, wx1_1, wx1_2, wx1_3⟩ := LayO.open_arr4 (hval 1 22 v1 rfl rfl) h1
  obtain ⟨a2, rfl, rfl, rfl, w2⟩ := open_int Try.underlying3 (hval 2 3 v2 rfl rfl) h2
  refine (walk W x0_0 x0_1 x0_2 x0_3 x0_4 wx0_0 wx0_1 wx0_2 wx0_3 wx0_4 x1_0 x1_1 x1_2 x1_3 wx1_0 wx1_1 wx1_2 wx1_3 a2 w2).mono fun e W' ⟨he, hg⟩ => ?_
  subst he
  exact ⟨_, rfl, hk W' hg⟩

theorem over : Rows.layoutPacksRow.holds Try.pinned (OpenSpec.ofChange Rows.layoutPacksSpec) :=
  OpenClaim.holds_of_wide 5 Try.f5 rfl rfl rfl rfl rfl rfl rfl ⟨rfl, rfl, rfl, rfl, rfl⟩ rfl rfl rfl rfl rfl (by kernel_rfl) Try.func5 (by kernel_rfl)
    (of_decide_eq_true (by kernel_rfl)) (by unfold Func.isWrapper; first | (rw [if_pos (by decide +kernel)]; kernel_rfl) | (rw [if_neg (by decide +kernel)]; exact ⟨rfl, rfl⟩))
    (fun os started H enc _ => lifted os started H enc)

/-- The statement. -/
theorem proved : Rows.LayoutPacksSaid :=
  over
#print axioms proved
end Go.Proofs.Ytaljpggppocnjaa.layoutPacks
