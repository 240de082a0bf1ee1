/-
  Contracts of the comparing functions: of equal lists, programs and scripts they return true.
-/
import Derived.Test.YtafidppjabdecaaCodeA
import Derived.Deep.QuietTactic
import Derived.BigQuiet
import Derived.Deep.Draws
import Derived.Deep.DeepCutAuto
import Derived.ChangeKeysEq
namespace Go.Proofs.Ytafidppjabdecaa.CodeP
open Go.ChangeShapes Go.WideShapes Go.ChangeAt Go.RowKit
open PlainT BlkW LawFrame CodeS CodeW CodeA
set_option linter.unusedVariables false
set_option maxHeartbeats 1000000

def Tru (w : World) (e : Ending) (w' : World) : Prop := e = .returned (.bool true) ∧ ∃ n, w' = w.drewN n
theorem Ints.drewN {k : IntKind} {w : World} {A : Option Addr} {n : Nat} {z : List Int} (h : Ints k w A n z) (m : Nat) : Ints k (w.drewN m) A n z := h
theorem drewN_drew (w : World) (n : Nat) : (w.drewN n).drew = w.drewN (n + 1) := by
  rfl
def WInv (w : World) (n : Nat) (i : Value) (wr : World) : Prop := ∃ (k m : Nat), k ≤ n ∧ i = .int .i64 k ∧ wr = w.drewN m
set_option maxHeartbeats 4000000 in
set_option maxRecDepth 100000 in
theorem k_words (A A' : Option Addr) (n c c' : Nat) (z : List Int) (w : World) (h1 : Ints .u64 w A n z) (h2 : Ints .u64 w A' n z) (hn : n ≤ maxLen) : Calls Try.prog 26 #[.slice A n c, .slice A' n c'] w fun e w' => Tru w e w' := by
  unfold maxLen at hn
  go_enter Try.func26, Try.ntmps26
  go_wp2
  go_loopw [5] (fun i wr => WInv w n i wr) (fun i _ => n - (intOf i).toNat)
  case atStart => exact ⟨0, 0, Nat.zero_le _, rfl, rfl⟩
  case round =>
    obtain ⟨k, m, hk, rfl, rfl⟩ := hrel
    by_cases hlt : k < n
    · obtain ⟨b, off, x, rfl, hb, hc, hx, hw⟩ := Ints.at h1 hlt
      obtain ⟨b', off', x', rfl, hb', hc', hx', hw'⟩ := Ints.at h2 hlt
      obtain rfl : x = x' := by rw [hx] at hx'; injection hx'
      clear hx hx'
      have hki : (0 : Int) ≤ (k : Int) := by omega
      have hkn : (k : Int) < (n : Int) := by omega
      go_wp2
      go_quiet (fail)
      go_wp2
      exact ⟨⟨k + 1, m + nq, by omega, by go_num, rfl⟩, by simp [intOf]; omega⟩
    · go_wp2
      go_ret
      exact ⟨rfl, _, rfl⟩
set_option maxHeartbeats 4000000 in
set_option maxRecDepth 100000 in
theorem k_ints (A A' : Option Addr) (n c c' : Nat) (z : List Int) (w : World) (h1 : Ints .i64 w A n z) (h2 : Ints .i64 w A' n z) (hn : n ≤ maxLen) : Calls Try.prog 27 #[.slice A n c, .slice A' n c'] w fun e w' => Tru w e w' := by
  unfold maxLen at hn
  go_enter Try.func27, Try.ntmps27
  go_wp2
  go_loopw [5] (fun i wr => WInv w n i wr) (fun i _ => n - (intOf i).toNat)
  case atStart => exact ⟨0, 0, Nat.zero_le _, rfl, rfl⟩
  case round =>
    obtain ⟨k, m, hk, rfl, rfl⟩ := hrel
    by_cases hlt : k < n
    · obtain ⟨b, off, x, rfl, hb, hc, hx, hw⟩ := Ints.at h1 hlt
      obtain ⟨b', off', x', rfl, hb', hc', hx', hw'⟩ := Ints.at h2 hlt
      obtain rfl : x = x' := by rw [hx] at hx'; injection hx'
      clear hx hx'
      have hki : (0 : Int) ≤ (k : Int) := by omega
      have hkn : (k : Int) < (n : Int) := by omega
      go_wp2
      go_quiet (fail)
      go_wp2
      exact ⟨⟨k + 1, m + nq, by omega, by go_num, rfl⟩, by simp [intOf]; omega⟩
    · go_wp2
      go_ret
      exact ⟨rfl, _, rfl⟩
set_option maxHeartbeats 4000000 in
set_option maxRecDepth 100000 in
theorem k_program (A A' : Option Addr) (n c c' : Nat) (p : List (List Int)) (w : World) (h1 : PRow w A n p) (h2 : PRow w A' n p) (hn : n ≤ maxLen) : Calls Try.prog 28 #[.slice A n c, .slice A' n c'] w fun e w' => Tru w e w' := by
  unfold maxLen at hn
  go_enter Try.func28, Try.ntmps28
  go_wp2
  go_loopw [5] (fun i wr => WInv w n i wr) (fun i _ => n - (intOf i).toNat)
  case atStart => exact ⟨0, 0, Nat.zero_le _, rfl, rfl⟩
  case round =>
    obtain ⟨k, m, hk, rfl, rfl⟩ := hrel
    by_cases hlt : k < n
    · obtain ⟨b, off, x0, x1, x2, x3, x4, rfl, hb, hx, _, d0, d1, d2, d3, d4⟩ := PRow.at h1 hlt
      obtain ⟨b', off', y0, y1, y2, y3, y4, rfl, hb', hy, _, e0, e1, e2, e3, e4⟩ := PRow.at h2 hlt
      rw [hx] at hy
      simp only [Option.some.injEq, List.cons.injEq, and_true] at hy
      obtain ⟨rfl, rfl, rfl, rfl, rfl⟩ := hy
      clear hx
      have hki : (0 : Int) ≤ (k : Int) := by omega
      have hkn : (k : Int) < (n : Int) := by omega
      go_wp2
      go_quiet (fail)
      go_wp2
      exact ⟨⟨k + 1, m + nq, by omega, by go_num, rfl⟩, by simp [intOf]; omega⟩
    · go_wp2
      go_ret
      exact ⟨rfl, _, rfl⟩
/-- The value holds the script s; all that it holds lies below block B. -/
def Holds (w : World) (B : Nat) (s : Scr) (v : Value) : Prop := ∃ x0 x1 x2 x3 x4 x5 x6 x7 x8 x9 x10 x11 Ai ni ci Ap np cp Ak nk ck,
  s.cfg = [x0, x1, x2, x3, x4, x5, x6, x7, x8, x9, x10, x11] ∧
  v = .agg #[.int .i64 x0, .int .i64 x1, .int .i64 x2, .int .i64 x3, .int .i64 x4, .int .i64 x5, .int .i64 x6, .int .i64 x7, .int .i64 x8, .int .i64 x9, .int .i64 x10, .int .i64 x11, .bool s.strong, .slice Ai ni ci, .slice Ap np cp, .slice Ak nk ck] ∧
  (∀ x ∈ s.cfg, InI x) ∧ (ni ≤ ci ∧ ci ≤ maxLen ∧ Ints .u64 w Ai ni s.init) ∧ (np ≤ cp ∧ cp ≤ maxLen ∧ PPRow w B Ap np s.progs) ∧ (nk ≤ ck ∧ ck ≤ maxLen ∧ Ints .i64 w Ak nk s.picks)
theorem info_int : (Try.prog.info? 3).map (fun i => (i.zero, i.size, i.bytes)) = some (some (.int .i64 0), 1, 8) := by kernel_rfl
theorem eq_step (d i : Nat) (is : List Nat) (xs ys : Array Value) (a : Int) (w : World) (hx : xs[i * 1]? = some (.int .i64 a)) (hy : ys[i * 1]? = some (.int .i64 a)) (h : (Op.eqItems (d + 1) 3 1 xs ys is).run Try.prog w = .ok true w) :
    (Op.eqItems (d + 1) 3 1 xs ys (i :: is)).run Try.prog w = .ok true w := by
  have hp : Try.prog.plainKey 3 = true := by kernel_rfl
  have h1 : (part 3 xs (i * 1)).run Try.prog w = .ok (.int .i64 a) w := run_part_plain w hp hx
  have h2 : (part 3 ys (i * 1)).run Try.prog w = .ok (.int .i64 a) w := run_part_plain w hp hy
  have h3 := run_equalIn_int (P := Try.prog) w d 3 .i64 .i64 a a Try.underlying3
  unfold Op.eqItems
  simp only [Sem.run_bind, h1, h2, h3, Result.andThen_ok, beq_self_eq_true, Bool.not_true, Bool.false_eq_true, if_false, h]
theorem eq_count (a b c d : Int) (w : World) : (Op.equalIn 9999 22 (.agg #[.int .i64 a, .int .i64 b, .int .i64 c, .int .i64 d]) (.agg #[.int .i64 a, .int .i64 b, .int .i64 c, .int .i64 d])).run Try.prog w = .ok true w := by
  obtain ⟨i0, hi, hz0, hz1, hz2⟩ := info_parts info_int
  have hc : Try.prog.cellsOf 3 = 1 := by kernel_rfl
  rw [run_equalIn_array w 9998 _ _ Try.underlying22 hi, hc]
  refine eq_step 9997 0 _ _ _ a w rfl rfl (eq_step 9997 1 _ _ _ b w rfl rfl (eq_step 9997 2 _ _ _ c w rfl rfl (eq_step 9997 3 _ _ _ d w rfl rfl ?_)))
  rfl
theorem PPRow.old {w w' : World} {B : Nat} {A : Option Addr} {n : Nat} {ps : List (List (List Int))} (h : PPRow w B A n ps) (k : Old w w') : PPRow w' B A n ps := by
  refine ⟨h.1, fun hn => ?_⟩
  obtain ⟨b, off, rfl, hB, hb, hc⟩ := h.2 hn
  refine ⟨b, off, rfl, hB, Nat.lt_of_lt_of_le hb k.1, fun i hi => ?_⟩
  obtain ⟨Ai, ni, ci, h1, h2, h3, h4, h5⟩ := hc i hi
  exact ⟨Ai, ni, ci, by rw [World.cell?_of_block (w := w) (k.2 b hb)]; exact h1, h2, h3, h4.old k, h5⟩
theorem PRow.drewN {w : World} {A : Option Addr} {n : Nat} {p : List (List Int)} (h : PRow w A n p) (m : Nat) : PRow (w.drewN m) A n p := h
theorem quiet_add {P : Program} {f : FuncId} {args : Array Value} {w : World} {a n : Nat} {v : Value}
    (h : Calls P f args (w.drewN (a + n)) fun e w' => e = .returned v ∧ ∃ m, w' = (w.drewN (a + n)).drewN m) :
    Calls P f args (w.drewN (a + n)) fun e w'' => e = .returned v ∧ ∃ m, w'' = w.drewN (a + m) :=
  h.mono fun _ _ ⟨he, m, hm⟩ => ⟨he, n + m, by rw [hm, World.drewN_drewN, Nat.add_assoc]⟩
theorem flg {w : World} {g : Nat} {t : TypeId} {cs : Array Value} (h : Mem w g t cs) (i : Nat) (v : Value) (hv : cs[i]? = some v) : w.cell? ⟨g, i, none⟩ = some v := (h.cell i).trans hv
set_option maxHeartbeats 8000000 in
set_option maxRecDepth 100000 in
theorem k_script (B B' : Nat) (s : Scr) (v v' : Value) (w : World) (h1 : Holds w B s v) (h2 : Holds w B' s v') : Calls Try.prog 14 #[v, v'] w fun e w' => e = .returned (.bool true) ∧ Below w.heap.size w w' := by
  obtain ⟨x0, x1, x2, x3, x4, x5, x6, x7, x8, x9, x10, x11, Ai, ni, ci, Ap, np, cp, Ak, nk, ck, e1, rfl, hx, ⟨i1, i2, i3⟩, ⟨p1, p2, p3⟩, ⟨k1, k2, k3⟩⟩ := h1
  obtain ⟨y0, y1, y2, y3, y4, y5, y6, y7, y8, y9, y10, y11, Bi, mi, di, Bp, mp, dp, Bk, mk, dk, e2, rfl, hy, ⟨j1, j2, j3⟩, ⟨q1, q2, q3⟩, ⟨r1, r2, r3⟩⟩ := h2
  rw [e1] at e2
  simp only [List.cons.injEq, and_true] at e2
  obtain ⟨rfl, rfl, rfl, rfl, rfl, rfl, rfl, rfl, rfl, rfl, rfl, rfl⟩ := e2
  obtain rfl : ni = mi := by rw [← i3.1, j3.1]
  obtain rfl : np = mp := by rw [← p3.1, q3.1]
  obtain rfl : nk = mk := by rw [← k3.1, r3.1]
  clear hx hy e1
  have li : ni ≤ maxLen := by omega
  have lk : nk ≤ maxLen := by omega
  have lp : np ≤ 9223372036854775807 := by unfold maxLen at p2; omega
  obtain ⟨W, hW⟩ : ∃ W, W = (w.alloc (.cells #[.int .i64 x0, .int .i64 x1, .int .i64 x2, .int .i64 x3, .int .i64 x4, .int .i64 x5, .int .i64 x6, .int .i64 x7, .int .i64 x8, .int .i64 x9, .int .i64 x10, .int .i64 x11, .bool s.strong, .slice Ai ni ci, .slice Ap np cp, .slice Ak nk ck] 29)).alloc (.cells #[.int .i64 x0, .int .i64 x1, .int .i64 x2, .int .i64 x3, .int .i64 x4, .int .i64 x5, .int .i64 x6, .int .i64 x7, .int .i64 x8, .int .i64 x9, .int .i64 x10, .int .i64 x11, .bool s.strong, .slice Bi ni di, .slice Bp np dp, .slice Bk nk dk] 29) := ⟨_, rfl⟩
  have HW := Lib.hid hW
  have HB := Lib.hid (show Below w.heap.size w W from hW ▸ below_new2 w _ _)
  have HO : Old w W := hW ▸ ((Old.refl w).alloc _).alloc _
  have I1 := Lib.hid (show Ints .u64 W Ai ni s.init from hW ▸ Ints.alloc (Ints.alloc i3 _) _)
  have I2 := Lib.hid (show Ints .u64 W Bi ni s.init from hW ▸ Ints.alloc (Ints.alloc j3 _) _)
  have K1 := Lib.hid (show Ints .i64 W Ak nk s.picks from hW ▸ Ints.alloc (Ints.alloc k3 _) _)
  have K2 := Lib.hid (show Ints .i64 W Bk nk s.picks from hW ▸ Ints.alloc (Ints.alloc r3 _) _)
  have P1 := Lib.hid (PPRow.old p3 HO)
  have P2 := Lib.hid (PPRow.old q3 HO)
  have hm1 : Mem W w.heap.size 29 #[.int .i64 x0, .int .i64 x1, .int .i64 x2, .int .i64 x3, .int .i64 x4, .int .i64 x5, .int .i64 x6, .int .i64 x7, .int .i64 x8, .int .i64 x9, .int .i64 x10, .int .i64 x11, .bool s.strong, .slice Ai ni ci, .slice Ap np cp, .slice Ak nk ck] := hW ▸ (Mem.new w _ _).alloc _
  have hm2 : Mem W (w.heap.size + 1) 29 #[.int .i64 x0, .int .i64 x1, .int .i64 x2, .int .i64 x3, .int .i64 x4, .int .i64 x5, .int .i64 x6, .int .i64 x7, .int .i64 x8, .int .i64 x9, .int .i64 x10, .int .i64 x11, .bool s.strong, .slice Bi ni di, .slice Bp np dp, .slice Bk nk dk] := hW ▸ mem_new1 w _ _ _
  have f13 := flg hm1 13 _ rfl
  have f14 := flg hm1 14 _ rfl
  have f15 := flg hm1 15 _ rfl
  have g13 := flg hm2 13 _ rfl
  have g14 := flg hm2 14 _ rfl
  have g15 := flg hm2 15 _ rfl
  have hec := eq_count
  clear hW i3 j3 k3 r3 p3 q3 HO hm1 hm2
  go_enter Try.func14, Try.ntmps14
  go_wp2_with fail
  rw [← HW.out]
  refine (k_words Ai Bi ni ci di s.init W I1.out I2.out li).mono ?_
  rintro e w1 ⟨rfl, n1, rfl⟩
  go_wp2_with fail
  refine (k_ints Ak Bk nk ck dk s.picks _ (Ints.drewN K1.out n1) (Ints.drewN K2.out n1) lk).mono ?_
  rintro e w1 ⟨rfl, n2, rfl⟩
  go_wp2
  go_loopw [5] (fun i wr => WInv W np i wr) (fun i _ => np - (intOf i).toNat)
  case atStart => exact ⟨0, n1 + n2, Nat.zero_le _, rfl, rfl⟩
  case round =>
    obtain ⟨k, m, hk, rfl, rfl⟩ := hrel
    by_cases hlt : k < np
    · obtain ⟨b, off, A1, m1, c1, p, rfl, hb, hpk, hc, hl1, hl2, hp, _⟩ := PPRow.at P1.out hlt
      obtain ⟨b', off', A2, m2, c2, p', rfl, hb', hpk', hc', hl1', hl2', hp', _⟩ := PPRow.at P2.out hlt
      obtain rfl : p = p' := by rw [hpk] at hpk'; injection hpk'
      obtain rfl : m1 = m2 := by rw [← hp.1, hp'.1]
      have hlm : m1 ≤ maxLen := by omega
      have hki : (0 : Int) ≤ (k : Int) := by omega
      have hkn : (k : Int) < (np : Int) := by omega
      have H1 := Lib.hid hp
      have H2 := Lib.hid hp'
      clear hpk hpk' hp hp'
      go_wp2
      go_quiet ((go_at_call 28; exact quiet_add (k_program A1 A2 m1 c1 c2 p _ (PRow.drewN H1.out _) (PRow.drewN H2.out _) hlm)))
      go_wp2
      exact ⟨⟨k + 1, m + nq, by omega, by go_num, rfl⟩, by simp [intOf]; omega⟩
    · go_wp2
      go_ret
      exact ⟨rfl, below_drewN HB.out m⟩
end Go.Proofs.Ytafidppjabdecaa.CodeP
