/-
  Proved: if a writer holds the orec while it writes, and releases it with a version greater than the snapshot, then under every interleaving of one read and any number of such writes a value without a conflict is the one before all writes. No condition.
-/
import Derived.Test.YtcbhpoajpingcaaRows
import Derived.WalkKit
import Derived.ProofKit
import Derived.OpenShut
import Derived.Test.YtcbhpoajpingcaaFrame
import Derived.Test.YtcbhpoajpingcaaRdL
import Derived.Test.YtcbhpoajpingcaaLayO
import Derived.Deep.RegionLaw
import Derived.Deep.RegionHeld3
import Derived.Test.YtcbhpoajpingcaaArgB
namespace Go.Proofs.Ytcbhpoajpingcaa.readerSnapshot
open Go.ChangeShapes Go.WideShapes Go.ChangeAt Go.RowKit
open LawFrame
open Go.ChangeMaps (open_string)
set_option linter.unusedVariables false

theorem own : ownKnob Try.prog.godebug = none := by kernel_rfl
theorem laidOut : laidOutB Try.prog = true := by kernel_rfl
theorem cells29 : Try.prog.cellsOf 29 = 1 := by kernel_rfl

open ArgB PlainT BlkW LayS LayA LayH LayK LayO LayP CelS CelM CelP CelV CelN CelO CelI CelF CelB LabD LabR LabP LabS LabX WordC RdA RdB RdC RdL
set_option maxHeartbeats 20000000
set_option maxRecDepth 100000
/-- The ownership record behind at_ steps of the writer. -/
def xw (n : Nat) : Int := if n % 3 = 0 then ((n / 3 : Nat) : Int) * 64 else ((n / 3 : Nat) : Int) * 64 + 1 + 1
theorem xw_in (n : Nat) (h : n ≤ 1000) : 0 ≤ xw n ∧ xw n ≤ 18446744073709551615 := by
  unfold xw
  split <;> omega
theorem xw_zero {n : Nat} (h : xw n = 0) : n = 0 := by
  unfold xw at h
  split at h <;> omega
theorem xw_free {n : Nat} (h : ¬ (0 ≤ xw n % 64 - 1 ∨ 0 < xw n / 64)) : n = 0 := by
  unfold xw at h
  split at h <;> omega
/-- The machine's state, when the writer has made n steps. -/
def Jn (was : Int) (n : Nat) (t bf vl : Int) : Prop := (0 ≤ t ∧ t ≤ 4) ∧ (1 ≤ t ∧ t ≤ 2 → bf = 0) ∧ (t = 2 → vl = was ∨ 2 ≤ n) ∧ (t = 3 → vl = was)
theorem jn_0 (was : Int) (n : Nat) (bf vl : Int) : Jn was n 0 bf vl := ⟨by decide, fun h => absurd h (by decide), fun h => absurd h (by decide), fun h => absurd h (by decide)⟩
theorem jn_up {was : Int} {n : Nat} {t bf vl : Int} (h : Jn was n t bf vl) : Jn was (n + 1) t bf vl := ⟨h.1, h.2.1, fun k => (h.2.2.1 k).imp id (by omega), h.2.2.2⟩
theorem jn_cases {was : Int} {n : Nat} {t bf vl : Int} (h : Jn was n t bf vl) : t < 3 ∨ (t = 3 ∧ vl = was) ∨ t = 4 := by
  have := h.1
  have h3 : t < 3 ∨ t = 3 ∨ t = 4 := by omega
  rcases h3 with h3 | h3 | h3
  · exact .inl h3
  · exact .inr (.inl ⟨h3, h.2.2.2 h3⟩)
  · exact .inr (.inr h3)
theorem jn_step {was : Int} {n : Nat} {t bf vl y : Int} (h : Jn was n t bf vl) (hy : n ≤ 1 → y = was) : Jn was n (nAt 0 (xw n) t bf) (nBf (xw n) t bf) (nVl y t vl) := by
  obtain ⟨h0, h1, h2, h3⟩ := h
  have ht' : t = 0 ∨ t = 1 ∨ t = 2 ∨ t = 3 ∨ t = 4 := by omega
  rcases ht' with rfl | rfl | rfl | rfl | rfl
  · by_cases hc : 0 ≤ xw n % 64 - 1 ∨ 0 < xw n / 64
    · rw [show nAt 0 (xw n) 0 bf = 4 from (nAt_0 _ _ _).trans (if_pos hc)]
      exact ⟨by decide, fun h => absurd h (by decide), fun h => absurd h (by decide), fun h => absurd h (by decide)⟩
    · rw [show nAt 0 (xw n) 0 bf = 1 from (nAt_0 _ _ _).trans (if_neg hc)]
      obtain rfl := xw_free hc
      exact ⟨by decide, fun _ => rfl, fun h => absurd h (by decide), fun h => absurd h (by decide)⟩
  · rw [show nAt 0 (xw n) 1 bf = 2 from rfl]
    refine ⟨by decide, fun _ => h1 (by decide), fun _ => ?_, fun h => absurd h (by decide)⟩
    by_cases hn : n ≤ 1
    · exact .inl (hy hn)
    · exact .inr (by omega)
  · by_cases hb : xw n = bf
    · rw [show nAt 0 (xw n) 2 bf = 3 from (nAt_2 _ _ _).trans (if_pos hb)]
      refine ⟨by decide, fun h => absurd h (by decide), fun h => absurd h (by decide), fun _ => ?_⟩
      have hb0 := h1 (by decide)
      have hn := xw_zero (hb.trans hb0)
      rcases h2 rfl with h | h
      · exact h
      · omega
    · rw [show nAt 0 (xw n) 2 bf = 4 from (nAt_2 _ _ _).trans (if_neg hb)]
      exact ⟨by decide, fun h => absurd h (by decide), fun h => absurd h (by decide), fun h => absurd h (by decide)⟩
  · rw [show nAt 0 (xw n) 3 bf = 3 from rfl]
    exact ⟨by decide, fun h => absurd h (by decide), fun h => absurd h (by decide), h3⟩
  · rw [show nAt 0 (xw n) 4 bf = 4 from rfl]
    exact ⟨by decide, fun h => absurd h (by decide), fun h => absurd h (by decide), fun h => absurd h (by decide)⟩
/-- The cells when the writer has made n steps. -/
def Cn (was : Int) (o a n : Nat) (A : Int → List Int) : Prop := o < (A 2).length ∧ a < (A 1).length ∧ (A 2).getD o 0 = xw n ∧ (n ≤ 1 → (A 1).getD a 0 = was)
theorem cn_held {was : Int} {o a n v : Nat} {A : Int → List Int} (h : Cn was o a n A) (hm : n % 3 = 0) (hv : n / 3 = v) : Cn was o a (n + 1) (upd A 2 o ((v : Int) * 64 + 1 + 1)) := by
  refine ⟨by rw [upd_len]; exact h.1, by rw [upd_len]; exact h.2.1, ?_, fun hn => ?_⟩
  · rw [upd_at h.1]
    unfold xw
    rw [if_neg (by omega), show (n + 1) / 3 = v by omega]
  · rw [upd_off (by decide)]
    exact h.2.2.2 (by omega)
theorem cn_data {was : Int} {o a n : Nat} {A : Int → List Int} {wv : Int} (h : Cn was o a n A) (hm : n % 3 = 1) : Cn was o a (n + 1) (upd A 1 a wv) := by
  refine ⟨by rw [upd_len]; exact h.1, by rw [upd_len]; exact h.2.1, ?_, fun hn => by omega⟩
  rw [upd_off (by decide), h.2.2.1]
  unfold xw
  rw [if_neg (by omega), if_neg (by omega), show (n + 1) / 3 = n / 3 by omega]
theorem cn_free {was : Int} {o a n v : Nat} {A : Int → List Int} (h : Cn was o a n A) (hm : n % 3 = 2) (hv : n / 3 = v) : Cn was o a (n + 1) (upd A 2 o (((v + 1 : Nat) : Int) * 64)) := by
  refine ⟨by rw [upd_len]; exact h.1, by rw [upd_len]; exact h.2.1, ?_, fun hn => by omega⟩
  rw [upd_at h.1]
  unfold xw
  rw [if_pos (by omega), show (n + 1) / 3 = v + 1 by omega]
theorem wat {w0 w : World} {A : Option Addr} {n : Nat} {z : List Int} (h : Ints .u64 w0 A n z) (ho : Below w0.heap.size w0 w) {k : Nat} (hk : k < n) : ∃ b off x, A = some ⟨b, off, none⟩ ∧ b < w0.heap.size ∧ w.cell? ⟨b, off + k, none⟩ = some (.int .u64 x) := by
  obtain ⟨h1, h2, h3⟩ := h
  obtain ⟨b, off, rfl, hb, hc⟩ := h3 (by omega)
  exact ⟨b, off, _, rfl, hb, (World.cell?_of_block (ho.block b hb)).trans (hc k hk)⟩
theorem k_wordat {w0 w : World} {A : Option Addr} {n : Nat} {z : List Int} (c : Nat) (h : Ints .u64 w0 A n z) (ho : Below w0.heap.size w0 w) (k : Nat) : Calls Try.prog 61 #[.slice A n c, .int .i64 k] w fun e w' => ∃ v, e = .returned (.int .u64 v) ∧ w = w' := by
  by_cases hk : k < n
  · obtain ⟨b, off, x, rfl, hb, hc⟩ := wat h ho hk
    have hkI : (k : Int) < n := by omega
    clear h ho hb
    go_enter Try.func61, Try.ntmps61
    go_wp2
    go_ret
    exact ⟨x, rfl, rfl⟩
  · have hkI : (n : Int) ≤ k := by omega
    clear h ho hk
    go_enter Try.func61, Try.ntmps61
    go_wp2
    go_ret
    exact ⟨0, rfl, rfl⟩

theorem readable : ∀ t ∈ Try.f9.params.toList, Try.prog.readableRec t = true ∧ t < Try.prog.types.size := by
  have h : (Try.f9.params.toList.all fun t => Try.prog.readableRec t && decide (t < Try.prog.types.size)) = true := by kernel_rfl
  intro t ht
  have := List.all_eq_true.1 h t ht
  simpa using this

/-! The walk. -/
theorem walk (w : World) (x0_0 x0_1 x0_2 x0_3 x0_4 : Int) (wx0_0 : LayS.InI x0_0) (wx0_1 : LayS.InI x0_1) (wx0_2 : LayS.InI x0_2) (wx0_3 : LayS.InI x0_3) (wx0_4 : LayS.InI x0_4) (a1 : Int) (w1 : (Lit.int .i64 a1).wf = true) (A2 : Option Addr) (n2 c2 : Nat) (z2 : List Int) (l2 : n2 ≤ c2) (m2 : c2 ≤ maxLen) (s2 : Ints .u64 w A2 n2 z2) (A3 : Option Addr) (n3 c3 : Nat) (l3 : n3 ≤ c3) (m3 : c3 ≤ maxLen) (s3 : ArgB.Bools w A3 n3) :
    Calls Try.prog 9 #[.agg #[.int .i64 x0_0, .int .i64 x0_1, .int .i64 x0_2, .int .i64 x0_3, .int .i64 x0_4], .int .i64 a1, .slice A2 n2 c2, .slice A3 n3 c3] w fun e w' => e = .returned (.bool true) ∧ Kept w w' := by
  show Calls _ _ #[.agg _, _, _, _] _ _
  clear wx0_0 wx0_1 wx0_2 wx0_3 wx0_4
  have HB0 := Lib.hid (below_new w (.cells #[.int .i64 x0_0, .int .i64 x0_1, .int .i64 x0_2, .int .i64 x0_3, .int .i64 x0_4] 22))
  have HZ2 := Lib.hid s2
  have HZ3 := Lib.hid s3
  clear w1 s2 s3
  go_enter Try.func9, Try.ntmps9
  go_upto_region 2 with (go_at_call 20; refine (l_small _ _ _ _ _ _).mono ?_; rintro e w1 ⟨q, A, lo, hi, b, rb, rfl, hst⟩)
  obtain ⟨w0, hw0⟩ : ∃ w0, w.alloc (.cells #[.int .i64 x0_0, .int .i64 x0_1, .int .i64 x0_2, .int .i64 x0_3, .int .i64 x0_4] 22) = w0 := ⟨_, rfl⟩
  rw [hw0] at HB0 hst
  clear hw0
  have L0 := Lib.hid (Lb.begun hst)
  obtain ⟨hmd, l1, l1', l2, z2⟩ := begun_len hst
  have hq : 4 ≤ q.w ∧ q.w ≤ 12 ∧ 1 ≤ q.o ∧ q.o ≤ 8 := by unfold Made at hmd; omega
  obtain ⟨qw0, qw1, qo0, qo1⟩ := hq
  have Z2 := Lib.hid z2
  have HL := Lib.hid (And.intro l1 (And.intro l1' l2))
  clear hst hmd z2 l1 l1' l2
  have L1 := Lib.hid (L0.out.new TP #[.pointer (some ⟨b, 0, none⟩), .pointer (some ⟨rb, 0, none⟩)])
  simp only [List.nil_append] at L1
  have Z_gp : Hid ((w1.alloc (.cells #[.pointer (some ⟨b, 0, none⟩), .pointer (some ⟨rb, 0, none⟩)] TP)).heap.size = w1.heap.size + 1) := Lib.hid (size_new _ _)
  obtain ⟨gp, hn⟩ : ∃ gp, w1.heap.size = gp := ⟨_, rfl⟩
  rw [hn] at L1 Z_gp
  first | rw [hn] | skip
  clear hn
  obtain ⟨W1, hW⟩ : ∃ W', w1.alloc (.cells #[.pointer (some ⟨b, 0, none⟩), .pointer (some ⟨rb, 0, none⟩)] TP) = W' := ⟨_, rfl⟩
  rw [hW] at L1 Z_gp
  first | rw [hW] | skip
  clear hW
  clear L0
  clear Z_gp
  by_cases hbig : (40 : Int) < n3
  · go_wp2_with (go_at_call 59; refine (l_awake _).mono ?_; rintro e w9 ⟨rfl, hb⟩)
    have HBF := Lib.hid (below_trans2 HB0.out (below_trans2 L1.out.old hb))
    clear hb
    go_ret
    exact ⟨rfl, .of_below HBF.out⟩
  have hn40 : (n3 : Int) ≤ 40 := by omega
  clear hbig
  have c1_gp_0 : W1.cell? ⟨gp, 0, none⟩ = some (.pointer (some ⟨b, 0, none⟩)) := L1.out.c 0 0 rfl rfl
  have c1_gp_1 : W1.cell? ⟨gp, 1, none⟩ = some (.pointer (some ⟨rb, 0, none⟩)) := L1.out.c 0 1 rfl rfl
  have d0 := L1.out.cfg 0 (by decide)
  have d1 := L1.out.cfg 1 (by decide)
  have d2 := L1.out.cfg 2 (by decide)
  have d3 := L1.out.cfg 3 (by decide)
  have d4 := L1.out.cfg 4 (by decide)
  have d5 := L1.out.cfg 5 (by decide)
  have d6 := L1.out.cfg 6 (by decide)
  have d7 := L1.out.cfg 7 (by decide)
  have d8 := L1.out.cfg 8 (by decide)
  have d9 := L1.out.cfg 9 (by decide)
  have d10 := L1.out.cfg 10 (by decide)
  have d11 := L1.out.cfg 11 (by decide)
  have d12 := L1.out.cfg 12 (by decide)
  simp [cells] at d0 d1 d2 d3 d4 d5 d6 d7 d8 d9 d10 d11 d12
  go_upto_region 5 with (fail)
  have L2 := Lib.hid (L1.out.new TC #[.int .i64 q.w, .int .i64 q.o, .int .i64 q.b, .int .i64 q.c0, .int .i64 q.c1, .int .i64 q.c2, .int .i64 q.c3, .int .i64 q.r, .int .i64 q.t, .int .i64 q.a, .int .i64 q.f, .int .i64 q.k, .bool q.s])
  simp only [List.cons_append, List.nil_append] at L2
  have Z_gc : Hid ((W1.alloc (.cells #[.int .i64 q.w, .int .i64 q.o, .int .i64 q.b, .int .i64 q.c0, .int .i64 q.c1, .int .i64 q.c2, .int .i64 q.c3, .int .i64 q.r, .int .i64 q.t, .int .i64 q.a, .int .i64 q.f, .int .i64 q.k, .bool q.s] TC)).heap.size = W1.heap.size + 1) := Lib.hid (size_new _ _)
  obtain ⟨gc, hn⟩ : ∃ gc, W1.heap.size = gc := ⟨_, rfl⟩
  rw [hn] at L2 Z_gc
  first | rw [hn] | skip
  clear hn
  obtain ⟨W2, hW⟩ : ∃ W', W1.alloc (.cells #[.int .i64 q.w, .int .i64 q.o, .int .i64 q.b, .int .i64 q.c0, .int .i64 q.c1, .int .i64 q.c2, .int .i64 q.c3, .int .i64 q.r, .int .i64 q.t, .int .i64 q.a, .int .i64 q.f, .int .i64 q.k, .bool q.s] TC) = W' := ⟨_, rfl⟩
  rw [hW] at L2 Z_gc
  first | rw [hW] | skip
  clear hW
  clear L1 c1_gp_0 c1_gp_1 d0 d1 d2 d3 d4 d5 d6 d7 d8 d9 d10 d11 d12
  clear Z_gc
  have c2_gc_0 : W2.cell? ⟨gc, 0, none⟩ = some (.int .i64 q.w) := L2.out.c 1 0 rfl rfl
  have c2_gc_1 : W2.cell? ⟨gc, 1, none⟩ = some (.int .i64 q.o) := L2.out.c 1 1 rfl rfl
  go_upto_region 6 with (go_at_call 14; refine (k_place_ex _ _ (by omega) (by omega) _).mono ?_; rintro e w2 ⟨a0, p0, p1, rfl, rfl⟩)
  obtain ⟨a, ha⟩ : ∃ a : Nat, a0 = a := ⟨(a0).toNat, by omega⟩
  subst ha
  obtain ⟨o, ho1, ho2, hA2, hA1⟩ : ∃ o : Nat, (a : Int) % q.o = (o : Int) ∧ (a : Int).tmod q.o = (o : Int) ∧ o < (A 2).length ∧ a < (A 1).length := by
    obtain ⟨l1, l1', l2⟩ := HL.out
    have e0 := Int.emod_nonneg (a : Int) (b := q.o) (by omega)
    have e1 := Int.emod_lt_of_pos (a : Int) (b := q.o) (by omega)
    have e2 : (a : Int).tmod q.o = (a : Int) % q.o := Int.tmod_eq_emod_of_nonneg (by omega)
    exact ⟨((a : Int) % q.o).toNat, by omega, by omega, by omega, by omega⟩
  have hno0 : q.o ≠ 0 := by omega
  go_upto_region 8 with (go_at_call 50; (with_reducible refine (rd_new _ _ _ _).mono ?_); rintro e w9 ⟨rfl, rfl⟩)
  have L3 := Lib.hid (L2.out.new TRd #[.int .i64 0, .int .i64 a, .int .i64 o, .int .i64 0, .int .u64 0, .int .u64 0, .bool false])
  simp only [List.cons_append, List.nil_append] at L3
  have Z_gx : Hid ((W2.alloc (.cells #[.int .i64 0, .int .i64 a, .int .i64 o, .int .i64 0, .int .u64 0, .int .u64 0, .bool false] TRd)).heap.size = W2.heap.size + 1) := Lib.hid (size_new _ _)
  obtain ⟨gx, hn⟩ : ∃ gx, W2.heap.size = gx := ⟨_, rfl⟩
  rw [hn] at L3 Z_gx
  first | rw [hn] | skip
  clear hn
  obtain ⟨W3, hW⟩ : ∃ W', W2.alloc (.cells #[.int .i64 0, .int .i64 a, .int .i64 o, .int .i64 0, .int .u64 0, .int .u64 0, .bool false] TRd) = W' := ⟨_, rfl⟩
  rw [hW] at L3 Z_gx
  first | rw [hW] | skip
  clear hW
  clear L2 c2_gc_0 c2_gc_1
  have L3 : Hid (Lb w0 lo hi b rb q A A [(gp, TP, #[.pointer (some ⟨b, 0, none⟩), .pointer (some ⟨rb, 0, none⟩)]), (gc, TC, #[.int .i64 q.w, .int .i64 q.o, .int .i64 q.b, .int .i64 q.c0, .int .i64 q.c1, .int .i64 q.c2, .int .i64 q.c3, .int .i64 q.r, .int .i64 q.t, .int .i64 q.a, .int .i64 q.f, .int .i64 q.k, .bool q.s]), (gx, TRd, pB a o 0 0 0 0)] W3) := L3
  clear Z_gx
  have c3_gp_0 : W3.cell? ⟨gp, 0, none⟩ = some (.pointer (some ⟨b, 0, none⟩)) := L3.out.c 0 0 rfl rfl
  have c3_gp_1 : W3.cell? ⟨gp, 1, none⟩ = some (.pointer (some ⟨rb, 0, none⟩)) := L3.out.c 0 1 rfl rfl
  obtain ⟨gd, cd, hdat⟩ := L3.out.data
  obtain ⟨dd0, dd1⟩ := hdat a hA1
  clear hdat
  have haI : (a : Int) < ((A 1).length : Int) := by omega
  have HCn : Hid (Cn ((A 1).getD a 0) o a 0 A) := Lib.hid ⟨hA2, hA1, Z2.out o, fun _ => rfl⟩
  obtain ⟨was, hwas⟩ : ∃ was, (A 1).getD a 0 = was := ⟨_, rfl⟩
  rw [hwas] at HCn dd1
  clear HL Z2 hA2 hwas ho1 ho2 p0 p1
  go_wp2_with fail
  go_loopw [16, 17, 18] (fun av vv iv wr => ∃ (i at_ : Nat) (t bf vl : Int) (A1 : Int → List Int), i ≤ n3 ∧ at_ ≤ i ∧ av = .int .i64 at_ ∧ vv = .int .i64 ((at_ / 3 : Nat) : Int) ∧ iv = .int .i64 i ∧ Hid (Jn was at_ t bf vl) ∧ Hid (Cn was o a at_ A1) ∧ Lb w0 lo hi b rb q A1 A1 [(gp, TP, #[.pointer (some ⟨b, 0, none⟩), .pointer (some ⟨rb, 0, none⟩)]), (gc, TC, #[.int .i64 q.w, .int .i64 q.o, .int .i64 q.b, .int .i64 q.c0, .int .i64 q.c1, .int .i64 q.c2, .int .i64 q.c3, .int .i64 q.r, .int .i64 q.t, .int .i64 q.a, .int .i64 q.f, .int .i64 q.k, .bool q.s]), (gx, TRd, pB a o 0 t bf vl)] wr) (fun _ _ iv _ => n3 - (intOf iv).toNat)
  case atStart => exact ⟨0, 0, 0, 0, 0, A, by omega, by omega, rfl, rfl, rfl, Lib.hid (jn_0 _ _ _ _), HCn, L3.out⟩
  case round =>
    clear L3 HCn c3_gp_0 c3_gp_1 dd0 dd1 haI hA1
    obtain ⟨i, at_, t, bf, vl, A1, hin, hai, rfl, rfl, rfl, HJ, HC, hL⟩ := hrel
    have L0 := Lib.hid hL
    clear hL
    have ht := HJ.out.1
    obtain ⟨v, hv⟩ : ∃ v : Nat, at_ / 3 = v := ⟨_, rfl⟩
    rw [hv]
    have HV := Lib.hid hv
    have hv40 : v ≤ 40 := by omega
    clear hv
    by_cases hlt : i < n3
    · have hltI : (i : Int) < n3 := by omega
      obtain ⟨pb, po, pz, hA3, hpc⟩ := HZ3.out.at_ (below_trans2 HB0.out L0.out.old) hlt
      subst hA3
      have c0_gp_0 : wr.cell? ⟨gp, 0, none⟩ = some (.pointer (some ⟨b, 0, none⟩)) := L0.out.c 0 0 rfl rfl
      have c0_gp_1 : wr.cell? ⟨gp, 1, none⟩ = some (.pointer (some ⟨rb, 0, none⟩)) := L0.out.c 0 1 rfl rfl
      cases pz
      case true =>
        obtain ⟨hA2, hA1, hx, hy⟩ := HC.out
        obtain ⟨k1, k2, k3, k4, k5, d, hac⟩ := nAc_ex a o (xw at_) ((A1 1).getD a 0) t
        have hst := x_step L0.out 2 rfl ht hA2 hA1 hx (xw_in at_ (by omega)).1 (xw_in at_ (by omega)).2 rfl (Lib.hid hac)
        have HY := Lib.hid hy
        clear hac hx hy hA2 hA1
        go_wp2_with (go_at_call 53; refine hst.mono ?_; rintro e w6 ⟨rfl, hL⟩; have L1 := Lib.hid hL; clear hL)
        go_roundw
        case rel => exact ⟨i + 1, at_, _, _, _, A1, by omega, by omega, rfl, by rw [HV.out], by go_num, Lib.hid (jn_step HJ.out HY.out), HC, L1.out⟩
        case measure => simp [intOf]; omega
      case false =>
        have hm3 : at_ % 3 = 0 ∨ at_ % 3 = 1 ∨ at_ % 3 = 2 := by omega
        obtain ⟨hA2, hA1, hx, hy⟩ := HC.out
        clear hx hy
        rcases hm3 with hm | hm | hm
        · have m1 : (at_ : Int) % 3 = 0 := by omega
          have m2 : (at_ : Int).tmod 3 = 0 := by rw [Int.tmod_eq_emod_of_nonneg (by omega)]; exact m1
          have HM := Lib.hid hm
          clear hm
          have hse := lb_set L0.out 2 (by decide) o hA2 ((v : Int) * 64 + 1 + 1)
          go_upto_region 31 with (first | (go_at_call 60; refine (r_held _ _ (by omega) (by omega) (by omega) (by omega) _).mono ?_; rintro e w5 ⟨rfl, rfl⟩) | (go_at_call 21; refine hse.mono ?_; rintro e w6 ⟨rfl, hL⟩; have L1 := Lib.hid hL; clear hL))
          have HC1 := cn_held HC.out HM.out HV.out
          have HCh := Lib.hid HC1
          clear HC1 hse hA1 hA2
          rcases jn_cases HJ.out with h3 | ⟨rfl, rfl⟩ | rfl
          · skip
            go_wp2_with (first
              | (go_at_call 55; (with_reducible refine (x_done L1.out 2 rfl ht (D := false) (Lib.hid (decide_eq_false (by omega)))).mono ?_); rintro e w7 ⟨rfl, rfl⟩)
              | (go_at_call 57; (with_reducible refine (x_conflict L1.out 2 rfl (C := false) (Lib.hid rfl)).mono ?_); rintro e w7 ⟨rfl, rfl⟩)
              | (go_at_call 58; (with_reducible refine (x_value L1.out 2 rfl ht (v := vl) (Lib.hid rfl)).mono ?_); rintro e w7 ⟨rfl, n7, rfl⟩)
              | (go_at_call 59; refine (l_awake _).mono ?_; rintro e w9 ⟨rfl, hb⟩))
            go_roundw
            case rel => exact ⟨i + 1, at_ + 1, _, _, _, _, by omega, by omega, by go_num, by have := HV.out; have := HM.out; congr 2; omega, by go_num, Lib.hid (jn_up HJ.out), HCh, L1.out⟩
            case measure => simp [intOf]; omega
          · skip
            go_wp2_with (first
              | (go_at_call 55; (with_reducible refine (x_done L1.out 2 rfl ht (D := true) (Lib.hid rfl)).mono ?_); rintro e w7 ⟨rfl, rfl⟩)
              | (go_at_call 57; (with_reducible refine (x_conflict L1.out 2 rfl (C := false) (Lib.hid rfl)).mono ?_); rintro e w7 ⟨rfl, rfl⟩)
              | (go_at_call 58; (with_reducible refine (x_value L1.out 2 rfl ht (v := vl) (Lib.hid rfl)).mono ?_); rintro e w7 ⟨rfl, n7, rfl⟩)
              | (go_at_call 59; refine (l_awake _).mono ?_; rintro e w9 ⟨rfl, hb⟩))
            go_roundw
            case rel => exact ⟨i + 1, at_ + 1, _, _, _, _, by omega, by omega, by go_num, by have := HV.out; have := HM.out; congr 2; omega, by go_num, Lib.hid (jn_up HJ.out), HCh, L1.out.drewN _⟩
            case measure => simp [intOf]; omega
          · skip
            go_wp2_with (first
              | (go_at_call 55; (with_reducible refine (x_done L1.out 2 rfl ht (D := true) (Lib.hid rfl)).mono ?_); rintro e w7 ⟨rfl, rfl⟩)
              | (go_at_call 57; (with_reducible refine (x_conflict L1.out 2 rfl (C := true) (Lib.hid rfl)).mono ?_); rintro e w7 ⟨rfl, rfl⟩)
              | (go_at_call 58; (with_reducible refine (x_value L1.out 2 rfl ht (v := vl) (Lib.hid rfl)).mono ?_); rintro e w7 ⟨rfl, n7, rfl⟩)
              | (go_at_call 59; refine (l_awake _).mono ?_; rintro e w9 ⟨rfl, hb⟩))
            go_roundw
            case rel => exact ⟨i + 1, at_ + 1, _, _, _, _, by omega, by omega, by go_num, by have := HV.out; have := HM.out; congr 2; omega, by go_num, Lib.hid (jn_up HJ.out), HCh, L1.out⟩
            case measure => simp [intOf]; omega
        · have m1 : (at_ : Int) % 3 = 1 := by omega
          have m2 : (at_ : Int).tmod 3 = 1 := by rw [Int.tmod_eq_emod_of_nonneg (by omega)]; exact m1
          have HM := Lib.hid hm
          clear hm
          have d3 : (at_ : Int).tdiv 3 = v := by rw [Int.tdiv_eq_ediv_of_nonneg (by omega)]; have := HV.out; omega
          have hse : ∀ z, Calls _ _ _ _ _ := fun z => lb_set L0.out 1 (by decide) a hA1 z
          go_upto_region 31 with (first | (go_at_call 61; refine (k_wordat c2 HZ2.out (below_trans2 HB0.out L0.out.old) v).mono ?_; rintro e w5 ⟨wv, rfl, rfl⟩) | (go_at_call 21; refine (hse _).mono ?_; rintro e w6 ⟨rfl, hL⟩; have L1 := Lib.hid hL; clear hL))
          have HC1 := cn_data (wv := wv) HC.out HM.out
          have HCh := Lib.hid HC1
          clear HC1 hse hA1 hA2
          rcases jn_cases HJ.out with h3 | ⟨rfl, rfl⟩ | rfl
          · skip
            go_wp2_with (first
              | (go_at_call 55; (with_reducible refine (x_done L1.out 2 rfl ht (D := false) (Lib.hid (decide_eq_false (by omega)))).mono ?_); rintro e w7 ⟨rfl, rfl⟩)
              | (go_at_call 57; (with_reducible refine (x_conflict L1.out 2 rfl (C := false) (Lib.hid rfl)).mono ?_); rintro e w7 ⟨rfl, rfl⟩)
              | (go_at_call 58; (with_reducible refine (x_value L1.out 2 rfl ht (v := vl) (Lib.hid rfl)).mono ?_); rintro e w7 ⟨rfl, n7, rfl⟩)
              | (go_at_call 59; refine (l_awake _).mono ?_; rintro e w9 ⟨rfl, hb⟩))
            go_roundw
            case rel => exact ⟨i + 1, at_ + 1, _, _, _, _, by omega, by omega, by go_num, by have := HV.out; have := HM.out; congr 2; omega, by go_num, Lib.hid (jn_up HJ.out), HCh, L1.out⟩
            case measure => simp [intOf]; omega
          · skip
            go_wp2_with (first
              | (go_at_call 55; (with_reducible refine (x_done L1.out 2 rfl ht (D := true) (Lib.hid rfl)).mono ?_); rintro e w7 ⟨rfl, rfl⟩)
              | (go_at_call 57; (with_reducible refine (x_conflict L1.out 2 rfl (C := false) (Lib.hid rfl)).mono ?_); rintro e w7 ⟨rfl, rfl⟩)
              | (go_at_call 58; (with_reducible refine (x_value L1.out 2 rfl ht (v := vl) (Lib.hid rfl)).mono ?_); rintro e w7 ⟨rfl, n7, rfl⟩)
              | (go_at_call 59; refine (l_awake _).mono ?_; rintro e w9 ⟨rfl, hb⟩))
            go_roundw
            case rel => exact ⟨i + 1, at_ + 1, _, _, _, _, by omega, by omega, by go_num, by have := HV.out; have := HM.out; congr 2; omega, by go_num, Lib.hid (jn_up HJ.out), HCh, L1.out.drewN _⟩
            case measure => simp [intOf]; omega
          · skip
            go_wp2_with (first
              | (go_at_call 55; (with_reducible refine (x_done L1.out 2 rfl ht (D := true) (Lib.hid rfl)).mono ?_); rintro e w7 ⟨rfl, rfl⟩)
              | (go_at_call 57; (with_reducible refine (x_conflict L1.out 2 rfl (C := true) (Lib.hid rfl)).mono ?_); rintro e w7 ⟨rfl, rfl⟩)
              | (go_at_call 58; (with_reducible refine (x_value L1.out 2 rfl ht (v := vl) (Lib.hid rfl)).mono ?_); rintro e w7 ⟨rfl, n7, rfl⟩)
              | (go_at_call 59; refine (l_awake _).mono ?_; rintro e w9 ⟨rfl, hb⟩))
            go_roundw
            case rel => exact ⟨i + 1, at_ + 1, _, _, _, _, by omega, by omega, by go_num, by have := HV.out; have := HM.out; congr 2; omega, by go_num, Lib.hid (jn_up HJ.out), HCh, L1.out⟩
            case measure => simp [intOf]; omega
        · have m1 : (at_ : Int) % 3 = 2 := by omega
          have m2 : (at_ : Int).tmod 3 = 2 := by rw [Int.tmod_eq_emod_of_nonneg (by omega)]; exact m1
          have HM := Lib.hid hm
          clear hm
          have hse := lb_set L0.out 2 (by decide) o hA2 (((v + 1 : Nat) : Int) * 64)
          go_upto_region 31 with (first | (go_at_call 62; refine (r_free _ (by omega) (by omega) _).mono ?_; rintro e w5 ⟨rfl, rfl⟩) | (go_at_call 21; refine hse.mono ?_; rintro e w6 ⟨rfl, hL⟩; have L1 := Lib.hid hL; clear hL))
          have HC1 := cn_free HC.out HM.out HV.out
          have HCh := Lib.hid HC1
          clear HC1 hse hA1 hA2
          rcases jn_cases HJ.out with h3 | ⟨rfl, rfl⟩ | rfl
          · skip
            go_wp2_with (first
              | (go_at_call 55; (with_reducible refine (x_done L1.out 2 rfl ht (D := false) (Lib.hid (decide_eq_false (by omega)))).mono ?_); rintro e w7 ⟨rfl, rfl⟩)
              | (go_at_call 57; (with_reducible refine (x_conflict L1.out 2 rfl (C := false) (Lib.hid rfl)).mono ?_); rintro e w7 ⟨rfl, rfl⟩)
              | (go_at_call 58; (with_reducible refine (x_value L1.out 2 rfl ht (v := vl) (Lib.hid rfl)).mono ?_); rintro e w7 ⟨rfl, n7, rfl⟩)
              | (go_at_call 59; refine (l_awake _).mono ?_; rintro e w9 ⟨rfl, hb⟩))
            go_roundw
            case rel => exact ⟨i + 1, at_ + 1, _, _, _, _, by omega, by omega, by go_num, by have := HV.out; have := HM.out; go_num, by go_num, Lib.hid (jn_up HJ.out), HCh, L1.out⟩
            case measure => simp [intOf]; omega
          · skip
            go_wp2_with (first
              | (go_at_call 55; (with_reducible refine (x_done L1.out 2 rfl ht (D := true) (Lib.hid rfl)).mono ?_); rintro e w7 ⟨rfl, rfl⟩)
              | (go_at_call 57; (with_reducible refine (x_conflict L1.out 2 rfl (C := false) (Lib.hid rfl)).mono ?_); rintro e w7 ⟨rfl, rfl⟩)
              | (go_at_call 58; (with_reducible refine (x_value L1.out 2 rfl ht (v := vl) (Lib.hid rfl)).mono ?_); rintro e w7 ⟨rfl, n7, rfl⟩)
              | (go_at_call 59; refine (l_awake _).mono ?_; rintro e w9 ⟨rfl, hb⟩))
            go_roundw
            case rel => exact ⟨i + 1, at_ + 1, _, _, _, _, by omega, by omega, by go_num, by have := HV.out; have := HM.out; go_num, by go_num, Lib.hid (jn_up HJ.out), HCh, L1.out.drewN _⟩
            case measure => simp [intOf]; omega
          · skip
            go_wp2_with (first
              | (go_at_call 55; (with_reducible refine (x_done L1.out 2 rfl ht (D := true) (Lib.hid rfl)).mono ?_); rintro e w7 ⟨rfl, rfl⟩)
              | (go_at_call 57; (with_reducible refine (x_conflict L1.out 2 rfl (C := true) (Lib.hid rfl)).mono ?_); rintro e w7 ⟨rfl, rfl⟩)
              | (go_at_call 58; (with_reducible refine (x_value L1.out 2 rfl ht (v := vl) (Lib.hid rfl)).mono ?_); rintro e w7 ⟨rfl, n7, rfl⟩)
              | (go_at_call 59; refine (l_awake _).mono ?_; rintro e w9 ⟨rfl, hb⟩))
            go_roundw
            case rel => exact ⟨i + 1, at_ + 1, _, _, _, _, by omega, by omega, by go_num, by have := HV.out; have := HM.out; go_num, by go_num, Lib.hid (jn_up HJ.out), HCh, L1.out⟩
            case measure => simp [intOf]; omega
    · obtain rfl : i = n3 := by omega
      clear hlt hin hai
      rcases jn_cases HJ.out with h3 | ⟨rfl, rfl⟩ | rfl
      · skip
        go_wp2_with (first
          | (go_at_call 55; (with_reducible refine (x_done L0.out 2 rfl ht (D := false) (Lib.hid (decide_eq_false (by omega)))).mono ?_); rintro e w7 ⟨rfl, rfl⟩)
          | (go_at_call 57; (with_reducible refine (x_conflict L0.out 2 rfl (C := false) (Lib.hid rfl)).mono ?_); rintro e w7 ⟨rfl, rfl⟩)
          | (go_at_call 58; (with_reducible refine (x_value L0.out 2 rfl ht (v := vl) (Lib.hid rfl)).mono ?_); rintro e w7 ⟨rfl, n7, rfl⟩)
          | (go_at_call 59; refine (l_awake _).mono ?_; rintro e w9 ⟨rfl, hb⟩))
        have HBF := Lib.hid (below_trans2 HB0.out (below_trans2 (L0.out.old) hb))
        clear hb
        go_ret
        exact ⟨rfl, .of_below HBF.out⟩
      · skip
        go_wp2_with (first
          | (go_at_call 55; (with_reducible refine (x_done L0.out 2 rfl ht (D := true) (Lib.hid rfl)).mono ?_); rintro e w7 ⟨rfl, rfl⟩)
          | (go_at_call 57; (with_reducible refine (x_conflict L0.out 2 rfl (C := false) (Lib.hid rfl)).mono ?_); rintro e w7 ⟨rfl, rfl⟩)
          | (go_at_call 58; (with_reducible refine (x_value L0.out 2 rfl ht (v := vl) (Lib.hid rfl)).mono ?_); rintro e w7 ⟨rfl, n7, rfl⟩)
          | (go_at_call 59; refine (l_awake _).mono ?_; rintro e w9 ⟨rfl, hb⟩))
        have HBF := Lib.hid (below_trans2 HB0.out (below_trans2 (below_drewN L0.out.old _) hb))
        clear hb
        go_ret
        exact ⟨rfl, .of_below HBF.out⟩
      · skip
        go_wp2_with (first
          | (go_at_call 55; (with_reducible refine (x_done L0.out 2 rfl ht (D := true) (Lib.hid rfl)).mono ?_); rintro e w7 ⟨rfl, rfl⟩)
          | (go_at_call 57; (with_reducible refine (x_conflict L0.out 2 rfl (C := true) (Lib.hid rfl)).mono ?_); rintro e w7 ⟨rfl, rfl⟩)
          | (go_at_call 58; (with_reducible refine (x_value L0.out 2 rfl ht (v := vl) (Lib.hid rfl)).mono ?_); rintro e w7 ⟨rfl, n7, rfl⟩)
          | (go_at_call 59; refine (l_awake _).mono ?_; rintro e w9 ⟨rfl, hb⟩))
        have HBF := Lib.hid (below_trans2 HB0.out (below_trans2 (L0.out.old) hb))
        clear hb
        go_ret
        exact ⟨rfl, .of_below HBF.out⟩

/-! The row's step. -/
set_option maxRecDepth 100000 in
theorem lifted (os : Os) (started : os.Started) (H : Type) (enc : TypeId × Value → H) :
    ReturnsInHanded {} Try.checked os 9 .any (Rows.readerSnapshotSpec.pre6 enc Try.prog Try.f9 Rows.readerSnapshotRow.domain false) (Rows.readerSnapshotSpec.post enc Try.prog Try.f9 false true false false) := by
  refine returnsInHanded_of_change (C := Try.checked) own started (by kernel_rfl) Try.func9
    (ChangeSpec.witness6 (enc := enc) (C := Try.checked) false ⟨#[], #[.agg #[.int .i64 0, .int .i64 0, .int .i64 0, .int .i64 0, .int .i64 0], .int .i64 0, .slice none 0 0, .slice none 0 0], []⟩ 8 (by kernel_rfl) (by kernel_rfl) (by kernel_rfl) (by kernel_rfl)) ?_
  intro W base args ds gs before hval0 hW hcnd _
  have hval : ∀ (j : Nat) t v, Try.f9.params[j]? = some t → args[j]? = some v → Value.okWide Try.prog W .any base t v := hval0
  have hW' := hW
  obtain ⟨p, q, hA0, hV, rfl, hfz, hnd⟩ := hW
  have hA : DataW.TrodAll enc Try.prog W 0 (fun _ => true) true Try.f9.params.toList args.toList ds p := hA0
  rw [Try.params9] at hA hval
  obtain ⟨v0, vs0, d0, ds0, p0, q0, hargs, rfl, rfl, h0, r0⟩ := trodAll_cons hA
  obtain ⟨v1, vs1, d1, ds1, p1, q1, rfl, rfl, rfl, h1, r1⟩ := trodAll_cons r0
  obtain ⟨v2, vs2, d2, ds2, p2, q2, rfl, rfl, rfl, h2, r2⟩ := trodAll_cons r1
  obtain ⟨v3, vs3, d3, ds3, p3, q3, rfl, rfl, rfl, h3, r3⟩ := trodAll_cons r2
  obtain ⟨rfl, rfl, rfl⟩ := trodAll_nil r3
  obtain rfl : args = #[v0, v1, v2, v3] := by cases args; simp_all
  obtain ⟨rfl, rfl⟩ := trodVars_none hV
  have hk : ∀ W', Kept W W' → Rows.readerSnapshotSpec.post enc Try.prog Try.f9 false true false false W #[v0, v1, v2, v3] (.bool true) W' := fun W' hb =>
    post_law laidOut readable rfl Try.underlying4 rfl hW' rfl hb
  clear hA0 hval0 hA hW'
  obtain ⟨x0_0, x0_1, x0_2, x0_3, x0_4, rfl, wx0_0, wx0_1, wx0_2, wx0_3, wx0_4⟩ := LayO.open_arr5 (hval 0 22 v0 rfl rfl) h0
  obtain ⟨a1, rfl, rfl, rfl, w1⟩ := open_int Try.underlying3 (hval 1 3 v1 rfl rfl) h1
  obtain ⟨A2, n2, c2, z2, rfl, l2, m2, s2⟩ := open_slice Try.underlying37 Try.underlying29 cells29 (hval 2 37 v2 rfl rfl) h2
  obtain ⟨A3, n3, c3, rfl, l3, m3, s3⟩ := ArgB.open_bl (hval 3 97 v3 rfl rfl) h3
  refine (walk W x0_0 x0_1 x0_2 x0_3 x0_4 wx0_0 wx0_1 wx0_2 wx0_3 wx0_4 a1 w1 A2 n2 c2 z2 l2 m2 s2 A3 n3 c3 l3 m3 s3).mono fun e W' ⟨he, hg⟩ => ?_
  subst he
  exact ⟨_, rfl, hk W' hg⟩

theorem over : Rows.readerSnapshotRow.holds Try.pinned (OpenSpec.ofChange Rows.readerSnapshotSpec) :=
  OpenClaim.holds_of_wide 9 Try.f9 rfl rfl rfl rfl rfl rfl rfl ⟨rfl, rfl, rfl, rfl, rfl⟩ rfl rfl rfl rfl rfl (by kernel_rfl) Try.func9 (by kernel_rfl)
    (of_decide_eq_true (by kernel_rfl)) (by unfold Func.isWrapper; first | (rw [if_pos (by decide +kernel)]; kernel_rfl) | (rw [if_neg (by decide +kernel)]; exact ⟨rfl, rfl⟩))
    (fun os started H enc _ => lifted os started H enc)

/-- The statement. -/
theorem proved : Rows.ReaderSnapshotSaid :=
  over
#print axioms proved
end Go.Proofs.Ytcbhpoajpingcaa.readerSnapshot
