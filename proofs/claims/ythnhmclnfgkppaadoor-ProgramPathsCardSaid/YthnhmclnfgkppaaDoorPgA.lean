/-
  Contracts of package program: transactions and its iterator.
-/
import Derived.RangeFuncNested
import Derived.RangeFuncBound
import Derived.RangeFuncCalls
import Derived.RangeFuncLeaves
import Derived.Shelf.Abstract
import Derived.Shelf.RegionOpen
import Derived.WalkKit
import Derived.OwnWalkIn
import Derived.TacticsInMore
import Derived.LoopNIn
import Derived.LoopIn
import Derived.Test.YthnhmclnfgkppaaDoorPgS
import Derived.Lib.Hide
namespace Go.Proofs.YthnhmclnfgkppaaDoor.PgA
open Go.ChangeShapes Go.WideShapes Go.ChangeAt Go.RowKit Go.Shelf
open PlainT BlkW PrgS PgS
set_option linter.unusedVariables false
attribute [local go_sem] Oper.semAt_some

/-- What yield is handed. -/
abbrev encT (x : Int × Int) : Array Value := #[.agg #[.int .i64 x.1, .int .i64 x.2]]
set_option maxRecDepth 100000 in
set_option maxHeartbeats 4000000 in
theorem iter_in (n : Nat) (hn : 1 ≤ n) (l Bn : Nat) (A : Option Addr) (m c : Nat) (ps : List I5) (w0 : World) (hm : m ≤ c) (hmx : c ≤ maxLen) (hR0 : RowI w0 A m ps) (J Jx : List (Int × Int) → World → Prop) (W : World)
    (hJ : AbidesFrom W.heap.size J)
    (hY : ∀ pre x W, J pre W → pre.length < (txV ps).length → YieldAt Fence.wide (n - 1) Tryd.prog l (encT x) W fun e W' =>
      (e = .returned (.bool true) ∧ J (pre ++ [x]) W' ∧ Below w0.heap.size W W') ∨ (e = .returned (.bool false) ∧ Jx (pre ++ [x]) W'))
    (hBn : W.cell? ⟨Bn, 0, none⟩ = some (.slice A m c)) (hBlt : Bn < w0.heap.size) (hW : Below w0.heap.size w0 W) (h0 : J [] W) :
    CallsIn Fence.wide n Tryd.prog 53 #[.func (.yield l) #[] #[], .pointer (some ⟨Bn, 0, none⟩)] W fun e W' => (∃ v, e = .returned v) ∧
      ((∃ ys, ys = txV ps ∧ J ys W') ∨ (∃ pre, pre <+: txV ps ∧ Jx pre W')) := by
  unfold maxLen at hmx
  have hlen := hR0.1
  refine callsIn_of_wp Tryd.func53 rfl trivial ?_ rfl
  simp only [Tryd.ntmps53, List.size_toArray, List.length_cons, List.length_nil, Nat.reduceAdd, Nat.reduceSub, Array.replicate_succ, Array.replicate_zero, List.push_toArray, List.append_toArray, List.nil_append, List.cons_append]
  gi_wp2
  gi_loopw [3, 4, 9] (fun bv ov kv wr => ∃ (k : Nat) (b : Int) (o : Bool) (pre : List (Int × Int)), k ≤ m ∧ kv = .int .i64 k ∧ bv = .int .i64 b ∧ ov = .bool o ∧ Hid (txV ps = pre ++ txGo ps.length (ps.drop k) k o b) ∧ J pre wr ∧ Below w0.heap.size w0 wr ∧ W.heap.size ≤ wr.heap.size) (fun _ _ kv _ => m - (intOf kv).toNat)
  case atStart => exact ⟨0, 0, false, [], by omega, rfl, rfl, rfl, Lib.hid rfl, h0, hW, Nat.le_refl _⟩
  case round =>
    obtain ⟨k, b, o, pre, hk, rfl, rfl, rfl, hx, hj, hb, hsz⟩ := hrel
    have HR := Lib.hid (hR0.below hb)
    have HLE := Lib.hid hlen
    clear hlen
    by_cases hkm : k < m
    · obtain ⟨g, off, x, rfl, hg, hxk, c0, c1, c2, c3, c4⟩ := HR.out.at hkm
      have hx2 := hx.out
      rw [drop_cons_of hxk] at hx2
      have HJN := Lib.hid (hJ pre wr _ none hj (World.grownBy_alloc wr (.cells #[.int .i64 x.op, .int .i64 x.a, .int .i64 x.b, .int .i64 x.c, .int .i64 x.i] 31) none) (fun r e => by cases e))
      have HBN := Lib.hid (hb.alloc (Nat.le_trans hW.size hsz) (.cells #[.int .i64 x.op, .int .i64 x.a, .int .i64 x.b, .int .i64 x.c, .int .i64 x.i] 31))
      have hsz2 : W.heap.size ≤ wr.heap.size + 1 := by omega
      by_cases h7 : x.op = 7
      · rw [h7] at c0 HJN HBN
        cases o with
        | false =>
          rw [txGo_begin h7] at hx2
          have HX := Lib.hid hx2
          clear hx hx2 hxk
          gi_wp2
          go_roundw
          case rel => exact ⟨k + 1, k, true, pre, by omega, by go_num, rfl, rfl, Lib.hid (by rw [show ((k + 1 : Nat) : Int) = (k : Int) + 1 by omega]; exact HX.out), HJN.out, HBN.out, by rw [size_new]; exact hsz2⟩
          case measure => simp [intOf]; omega
        | true =>
          rw [txGo_other (by simp) (by rw [h7]; simp)] at hx2
          have HX := Lib.hid hx2
          clear hx hx2 hxk
          gi_wp2
          go_roundw
          case rel => exact ⟨k + 1, b, true, pre, by omega, by go_num, rfl, rfl, Lib.hid (by rw [show ((k + 1 : Nat) : Int) = (k : Int) + 1 by omega]; exact HX.out), HJN.out, HBN.out, by rw [size_new]; exact hsz2⟩
          case measure => simp [intOf]; omega
      · have h7' : (x.op == 7) = false := beq_eq_false_iff_ne.2 h7
        by_cases h8 : x.op = 8
        · rw [h8] at c0 HJN HBN
          cases o with
          | false =>
            rw [txGo_other (fun h => h7 h.1) (by simp)] at hx2
            have HX := Lib.hid hx2
            clear hx hx2 hxk
            clear h7 h7'
            gi_wp2
            go_roundw
            case rel => exact ⟨k + 1, b, false, pre, by omega, by go_num, rfl, rfl, Lib.hid (by rw [show ((k + 1 : Nat) : Int) = (k : Int) + 1 by omega]; exact HX.out), HJN.out, HBN.out, by rw [size_new]; exact hsz2⟩
            case measure => simp [intOf]; omega
          | true =>
            rw [txGo_commit h8] at hx2
            have HX := Lib.hid hx2
            obtain ⟨fn, tmps, assign, body, hy, hR⟩ := hY pre (b, (k : Int)) _ HJN.out (by rw [hx2]; simp)
            try dsimp only at hy
            clear hx hx2 hxk h7 h7'
            gi_wp2
            refine hR.mono ?_
            rintro e W3 (⟨rfl, hJ3, hk3⟩ | ⟨rfl, hJx3⟩)
            · have hsz3 : W.heap.size ≤ W3.heap.size := by have := hk3.size; rw [size_new] at this; omega
              gi_wp2
              go_roundw
              case rel => exact ⟨k + 1, b, false, pre ++ [(b, (k : Int))], by omega, by go_num, rfl, rfl, Lib.hid (by rw [show ((k + 1 : Nat) : Int) = (k : Int) + 1 by omega, List.append_assoc]; exact HX.out), hJ3, HBN.out.trans hk3, hsz3⟩
              case measure => simp [intOf]; omega
            · gi_wp2
              refine bodyPost_ret (results_none rfl _ _ _) rfl ?_
              exact ⟨⟨_, rfl⟩, .inr ⟨pre ++ [(b, (k : Int))], ⟨_, by rw [HX.out, List.append_assoc]; rfl⟩, hJx3⟩⟩
        · have h8' : (x.op == 8) = false := beq_eq_false_iff_ne.2 h8
          rw [txGo_other (fun h => h7 h.1) (fun h => h8 h.1)] at hx2
          have HX := Lib.hid hx2
          clear hx hx2 hxk
          cases o with
          | false =>
            gi_wp2
            go_roundw
            case rel => exact ⟨k + 1, b, false, pre, by omega, by go_num, rfl, rfl, Lib.hid (by rw [show ((k + 1 : Nat) : Int) = (k : Int) + 1 by omega]; exact HX.out), HJN.out, HBN.out, by rw [size_new]; exact hsz2⟩
            case measure => simp [intOf]; omega
          | true =>
            gi_wp2
            go_roundw
            case rel => exact ⟨k + 1, b, true, pre, by omega, by go_num, rfl, rfl, Lib.hid (by rw [show ((k + 1 : Nat) : Int) = (k : Int) + 1 by omega]; exact HX.out), HJN.out, HBN.out, by rw [size_new]; exact hsz2⟩
            case measure => simp [intOf]; omega
    · obtain rfl : k = m := by omega
      have hx2 := hx.out
      rw [show ps.drop k = [] from List.drop_eq_nil_of_le (by rw [HLE.out]; exact Nat.le_refl _)] at hx2
      have hcB := (hb.cell (p := ⟨Bn, 0, none⟩) hBlt).trans ((hW.cell (p := ⟨Bn, 0, none⟩) hBlt).symm.trans hBn)
      rw [HLE.out] at hx2
      cases o with
      | false =>
        simp only [txGo, Bool.false_eq_true, if_false, List.append_nil] at hx2
        have HX := Lib.hid hx2
        clear hx hx2
        gi_wp2
        go_end0
        exact ⟨⟨_, rfl⟩, .inl ⟨pre, HX.out.symm, hj⟩⟩
      | true =>
        simp only [txGo, if_true] at hx2
        have HX := Lib.hid hx2
        obtain ⟨fn, tmps, assign, body, hy, hR⟩ := hY pre (b, (k : Int)) _ hj (by rw [hx2]; simp)
        try dsimp only at hy
        clear hx hx2
        gi_wp2
        refine hR.mono ?_
        rintro e W3 (⟨rfl, hJ3, hk3⟩ | ⟨rfl, hJx3⟩)
        · gi_wp2
          go_end0
          exact ⟨⟨_, rfl⟩, .inl ⟨_, HX.out.symm, hJ3⟩⟩
        · gi_wp2
          go_end0
          exact ⟨⟨_, rfl⟩, .inr ⟨_, ⟨[], by rw [HX.out, List.append_nil]⟩, hJx3⟩⟩
/-- **transactions**: the slice is boxed; the function value captures the box. -/
theorem trans_in (n : Nat) (A : Option Addr) (m c : Nat) (w : World) :
    CallsIn Fence.wide n Tryd.prog 25 #[.slice A m c] w fun e w' => e = .returned (.func (.func 53) #[] #[.pointer (some ⟨w.heap.size, 0, none⟩)]) ∧ w' = w.alloc (.cells #[.slice A m c] 24) := by
  refine callsIn_of_wp Tryd.func25 rfl trivial ?_ rfl
  simp only [Tryd.ntmps25, List.size_toArray, List.length_cons, List.length_nil, Nat.reduceAdd, Nat.reduceSub, Array.replicate_succ, Array.replicate_zero, List.push_toArray, List.append_toArray, List.nil_append, List.cons_append]
  gi_wp2
  go_ret
  exact ⟨rfl, rfl⟩
/-- **transactions HANDS BACK A VALUE THAT 'SeqStopsK'**: all transactions in their order; or a prefix. -/
theorem trans_stops (n : Nat) (hn : 1 ≤ n) (Bn : Nat) (A : Option Addr) (m c : Nat) (ps : List I5) (w0 w : World) (hm : m ≤ c) (hmx : c ≤ maxLen) (hR0 : RowI w0 A m ps) (hB : Below w0.heap.size w0 w) (hBn : w.cell? ⟨Bn, 0, none⟩ = some (.slice A m c)) (hBlt : Bn < w.heap.size) :
    SeqStopsK Fence.wide n Tryd.prog 53 #[.pointer (some ⟨Bn, 0, none⟩)] encT (Below w.heap.size) (fun ys => ys = txV ps) (fun pre => pre <+: txV ps) (txV ps).length w := fun l J Jx W hW hJ _ hY h0 =>
  iter_in n hn l Bn A m c ps w hm hmx (hR0.old ⟨hB.size, fun i hi => hB.block i hi⟩) J Jx W hJ hY ((hW.cell (p := ⟨Bn, 0, none⟩) hBlt).trans hBn) hBlt hW h0
end Go.Proofs.YthnhmclnfgkppaaDoor.PgA
