/-
  Contracts of package limbo: New, Add, Blocks, Versions, Drain.
-/
import Derived.Test.YtpjbmbipkmpkhaaLmA
import Derived.Test.YtpjbmbipkmpkhaaRgn
import Derived.Deep.RegionLaw
import Derived.Deep.RegionHeld3
import Derived.Deep.Cut
import Derived.Deep.DeepCutAuto
import Derived.Deep.CutBlock
import Derived.BigQuiet
import Derived.Deep.QuietTactic
namespace Go.Proofs.Ytpjbmbipkmpkhaa.LmB
open Go.ChangeShapes Go.WideShapes Go.ChangeAt Go.RowKit
open PlainT BlkW LayS LayA LayF LayH LayK CelS CelM CelP CelV CelN CelO CelF LabD LabR LabP LabS LabX LabN CelLo RsA ObjA ClnA FreP FreA FreB LmP LmA
set_option linter.unusedVariables false
set_option maxHeartbeats 2000000
set_option maxRecDepth 100000


/-- The classes of the blocks, one by one. -/
theorem cl_take {i : Nat} (h : i < 6) : clsl.take (i + 1) = clsl.take i ++ [clsV hq i] := by
  have : i = 0 ∨ i = 1 ∨ i = 2 ∨ i = 3 ∨ i = 4 ∨ i = 5 := by omega
  rcases this with rfl | rfl | rfl | rfl | rfl | rfl <;> decide

theorem lb_new {w0 w : World} {lo hi b rb : Nat} {A B : Int → List Int} {X : List Ob}  (h : Lo w0 lo hi b rb hq A B (X ++ []) w) : Calls Try.prog 50 #[cfgV hq] w fun e w' => ∃ g As cs, e = .returned (.pointer (some ⟨g, 0, none⟩)) ∧ Lo w0 lo hi b rb hq A B (X ++ [lM g (.slice As 6 cs) (.slice none 0 0) []]) w' := by
  have L0 := Lib.hid h
  clear h
  go_enter Try.func50, Try.ntmps50
  have hbl := blocks_below hq
  have hbv : blkV hq = 6 := by decide
  rw [hbv] at hbl
  go_upto_region 1 with (fail)
  have L1 := Lib.hid (L0.out.newR TC #[.int .i64 20, .int .i64 4, .int .i64 1, .int .i64 3, .int .i64 2, .int .i64 1, .int .i64 0, .int .i64 1, .int .i64 1, .int .i64 0, .int .i64 0, .int .i64 0, .bool false])
  obtain ⟨gc, hn⟩ : ∃ gc, w.heap.size = gc := ⟨_, rfl⟩
  rw [hn] at L1
  first | rw [hn] | skip
  clear hn
  obtain ⟨W1, hW⟩ : ∃ W', w.alloc (.cells #[.int .i64 20, .int .i64 4, .int .i64 1, .int .i64 3, .int .i64 2, .int .i64 1, .int .i64 0, .int .i64 1, .int .i64 1, .int .i64 0, .int .i64 0, .int .i64 0, .bool false] TC) = W' := ⟨_, rfl⟩
  rw [hW] at L1
  first | rw [hW] | skip
  clear hW
  have L1 : Hid (Lo w0 lo hi b rb hq A B (X ++ [bx gc TC #[.int .i64 20, .int .i64 4, .int .i64 1, .int .i64 3, .int .i64 2, .int .i64 1, .int .i64 0, .int .i64 1, .int .i64 1, .int .i64 0, .int .i64 0, .int .i64 0, .bool false]]) W1) := L1
  clear L0
  go_upto_region 2 with (fail)
  have L2 := Lib.hid (L1.out.newR TLb #[.slice none 0 0, .slice none 0 0])
  obtain ⟨g, hn⟩ : ∃ g, W1.heap.size = g := ⟨_, rfl⟩
  rw [hn] at L2
  first | rw [hn] | skip
  clear hn
  obtain ⟨W2, hW⟩ : ∃ W', W1.alloc (.cells #[.slice none 0 0, .slice none 0 0] TLb) = W' := ⟨_, rfl⟩
  rw [hW] at L2
  first | rw [hW] | skip
  clear hW
  have L2 : Hid (Lo w0 lo hi b rb hq A B (X ++ [bx gc TC #[.int .i64 20, .int .i64 4, .int .i64 1, .int .i64 3, .int .i64 2, .int .i64 1, .int .i64 0, .int .i64 1, .int .i64 1, .int .i64 0, .int .i64 0, .int .i64 0, .bool false], bx g TLb #[.slice none 0 0, .slice none 0 0]]) W2) := L2
  clear L1
  have c2_0_0 : W2.cell? ⟨gc, 0, none⟩ = some (.int .i64 20) := L2.out.cR 0 0 rfl rfl
  have c2_0_1 : W2.cell? ⟨gc, 1, none⟩ = some (.int .i64 4) := L2.out.cR 0 1 rfl rfl
  have c2_0_2 : W2.cell? ⟨gc, 2, none⟩ = some (.int .i64 1) := L2.out.cR 0 2 rfl rfl
  have c2_0_3 : W2.cell? ⟨gc, 3, none⟩ = some (.int .i64 3) := L2.out.cR 0 3 rfl rfl
  have c2_0_4 : W2.cell? ⟨gc, 4, none⟩ = some (.int .i64 2) := L2.out.cR 0 4 rfl rfl
  have c2_0_5 : W2.cell? ⟨gc, 5, none⟩ = some (.int .i64 1) := L2.out.cR 0 5 rfl rfl
  have c2_0_6 : W2.cell? ⟨gc, 6, none⟩ = some (.int .i64 0) := L2.out.cR 0 6 rfl rfl
  have c2_0_7 : W2.cell? ⟨gc, 7, none⟩ = some (.int .i64 1) := L2.out.cR 0 7 rfl rfl
  have c2_0_8 : W2.cell? ⟨gc, 8, none⟩ = some (.int .i64 1) := L2.out.cR 0 8 rfl rfl
  have c2_0_9 : W2.cell? ⟨gc, 9, none⟩ = some (.int .i64 0) := L2.out.cR 0 9 rfl rfl
  have c2_0_10 : W2.cell? ⟨gc, 10, none⟩ = some (.int .i64 0) := L2.out.cR 0 10 rfl rfl
  have c2_0_11 : W2.cell? ⟨gc, 11, none⟩ = some (.int .i64 0) := L2.out.cR 0 11 rfl rfl
  have c2_0_12 : W2.cell? ⟨gc, 12, none⟩ = some (.bool false) := L2.out.cR 0 12 rfl rfl
  go_upto_region 3 with ((go_at_call 97; (with_reducible refine (hbl _).mono ?_); rintro e w2 ⟨rfl, hb⟩))
  have L3 : Hid (Lo w0 lo hi b rb hq A B (X ++ [bx gc TC #[.int .i64 20, .int .i64 4, .int .i64 1, .int .i64 3, .int .i64 2, .int .i64 1, .int .i64 0, .int .i64 1, .int .i64 1, .int .i64 0, .int .i64 0, .int .i64 0, .bool false], bx g TLb #[.slice none 0 0, .slice none 0 0], rv TI 1 (.slice none 0 0) 0 (is [])]) w2) := Lib.hid (Lo.nilVR (L2.out.below hb) TI 1)
  clear L2 c2_0_0 c2_0_1 c2_0_2 c2_0_3 c2_0_4 c2_0_5 c2_0_6 c2_0_7 c2_0_8 c2_0_9 c2_0_10 c2_0_11 c2_0_12 hb hbl hbv
  go_loopw [9] (fun iv wr => ∃ (i : Nat) (As : Option Addr) (cs : Nat), i ≤ 6 ∧ iv = .int .i64 i ∧ Hid (Lo w0 lo hi b rb hq A B (X ++ [bx gc TC #[.int .i64 20, .int .i64 4, .int .i64 1, .int .i64 3, .int .i64 2, .int .i64 1, .int .i64 0, .int .i64 1, .int .i64 1, .int .i64 0, .int .i64 0, .int .i64 0, .bool false], bx g TLb #[.slice As i cs, .slice none 0 0], rv TI 1 (.slice As i cs) i (is (clsl.take i))]) wr)) (fun iv _ => 6 - (intOf iv).toNat)
  case atStart => exact ⟨0, none, 0, by omega, rfl, L3⟩
  case round =>
    clear L3
    obtain ⟨i, As, cs, hi6, rfl, L0⟩ := hrel
    by_cases hlt : i < 6
    · have hltI : (i : Int) < 6 := by omega
      go_upto_region 5 with (fail)
      have hcl : ∀ W, Calls _ _ _ W _ := fun W => a_class hq i W
      obtain ⟨z, hz⟩ : ∃ z, clsV hq i = z := ⟨_, rfl⟩
      have hzz := Lib.hid hz
      rw [hz] at hcl
      have hcl : ∀ W, Calls Try.prog 98 #[.agg #[.int .i64 20, .int .i64 4, .int .i64 1, .int .i64 3, .int .i64 2, .int .i64 1, .int .i64 0, .int .i64 1, .int .i64 1, .int .i64 0, .int .i64 0, .int .i64 0, .bool false], .int .i64 i] W fun e w' => e = .returned (.int .i64 z) ∧ Below W.heap.size W w' := hcl
      have hpush : ∀ w2, Below wr.drew.heap.size wr.drew w2 → _ := fun w2 hb => Lo.pushI (L0.out.drew.below hb) 2 rfl (by omega) z
      have c0_0_0 : wr.cell? ⟨gc, 0, none⟩ = some (.int .i64 20) := L0.out.cR 0 0 rfl rfl
      have c0_0_1 : wr.cell? ⟨gc, 1, none⟩ = some (.int .i64 4) := L0.out.cR 0 1 rfl rfl
      have c0_0_2 : wr.cell? ⟨gc, 2, none⟩ = some (.int .i64 1) := L0.out.cR 0 2 rfl rfl
      have c0_0_3 : wr.cell? ⟨gc, 3, none⟩ = some (.int .i64 3) := L0.out.cR 0 3 rfl rfl
      have c0_0_4 : wr.cell? ⟨gc, 4, none⟩ = some (.int .i64 2) := L0.out.cR 0 4 rfl rfl
      have c0_0_5 : wr.cell? ⟨gc, 5, none⟩ = some (.int .i64 1) := L0.out.cR 0 5 rfl rfl
      have c0_0_6 : wr.cell? ⟨gc, 6, none⟩ = some (.int .i64 0) := L0.out.cR 0 6 rfl rfl
      have c0_0_7 : wr.cell? ⟨gc, 7, none⟩ = some (.int .i64 1) := L0.out.cR 0 7 rfl rfl
      have c0_0_8 : wr.cell? ⟨gc, 8, none⟩ = some (.int .i64 1) := L0.out.cR 0 8 rfl rfl
      have c0_0_9 : wr.cell? ⟨gc, 9, none⟩ = some (.int .i64 0) := L0.out.cR 0 9 rfl rfl
      have c0_0_10 : wr.cell? ⟨gc, 10, none⟩ = some (.int .i64 0) := L0.out.cR 0 10 rfl rfl
      have c0_0_11 : wr.cell? ⟨gc, 11, none⟩ = some (.int .i64 0) := L0.out.cR 0 11 rfl rfl
      have c0_0_12 : wr.cell? ⟨gc, 12, none⟩ = some (.bool false) := L0.out.cR 0 12 rfl rfl
      have c0_1_0 : wr.cell? ⟨g, 0, none⟩ = some (.slice As i cs) := L0.out.cR 1 0 rfl rfl
      have hall : ∀ W, Lo w0 lo hi b rb hq A B (X ++ [bx gc TC #[.int .i64 20, .int .i64 4, .int .i64 1, .int .i64 3, .int .i64 2, .int .i64 1, .int .i64 0, .int .i64 1, .int .i64 1, .int .i64 0, .int .i64 0, .int .i64 0, .bool false], bx g TLb #[.slice As i cs, .slice none 0 0], rv TI 1 (.slice As i cs) i (is (clsl.take i))]) W → (fun W : World => W.cell? ⟨gc, 0, none⟩ = some (.int .i64 20) ∧ W.cell? ⟨gc, 1, none⟩ = some (.int .i64 4) ∧ W.cell? ⟨gc, 2, none⟩ = some (.int .i64 1) ∧ W.cell? ⟨gc, 3, none⟩ = some (.int .i64 3) ∧ W.cell? ⟨gc, 4, none⟩ = some (.int .i64 2) ∧ W.cell? ⟨gc, 5, none⟩ = some (.int .i64 1) ∧ W.cell? ⟨gc, 6, none⟩ = some (.int .i64 0) ∧ W.cell? ⟨gc, 7, none⟩ = some (.int .i64 1) ∧ W.cell? ⟨gc, 8, none⟩ = some (.int .i64 1) ∧ W.cell? ⟨gc, 9, none⟩ = some (.int .i64 0) ∧ W.cell? ⟨gc, 10, none⟩ = some (.int .i64 0) ∧ W.cell? ⟨gc, 11, none⟩ = some (.int .i64 0) ∧ W.cell? ⟨gc, 12, none⟩ = some (.bool false) ∧ W.cell? ⟨g, 0, none⟩ = some (.slice As i cs)) W := fun W h => ⟨h.cR 0 0 rfl rfl, h.cR 0 1 rfl rfl, h.cR 0 2 rfl rfl, h.cR 0 3 rfl rfl, h.cR 0 4 rfl rfl, h.cR 0 5 rfl rfl, h.cR 0 6 rfl rfl, h.cR 0 7 rfl rfl, h.cR 0 8 rfl rfl, h.cR 0 9 rfl rfl, h.cR 0 10 rfl rfl, h.cR 0 11 rfl rfl, h.cR 0 12 rfl rfl, h.cR 1 0 rfl rfl⟩
      have hs0 : (fun W : World => W.cell? ⟨gc, 0, none⟩ = some (.int .i64 20) ∧ W.cell? ⟨gc, 1, none⟩ = some (.int .i64 4) ∧ W.cell? ⟨gc, 2, none⟩ = some (.int .i64 1) ∧ W.cell? ⟨gc, 3, none⟩ = some (.int .i64 3) ∧ W.cell? ⟨gc, 4, none⟩ = some (.int .i64 2) ∧ W.cell? ⟨gc, 5, none⟩ = some (.int .i64 1) ∧ W.cell? ⟨gc, 6, none⟩ = some (.int .i64 0) ∧ W.cell? ⟨gc, 7, none⟩ = some (.int .i64 1) ∧ W.cell? ⟨gc, 8, none⟩ = some (.int .i64 1) ∧ W.cell? ⟨gc, 9, none⟩ = some (.int .i64 0) ∧ W.cell? ⟨gc, 10, none⟩ = some (.int .i64 0) ∧ W.cell? ⟨gc, 11, none⟩ = some (.int .i64 0) ∧ W.cell? ⟨gc, 12, none⟩ = some (.bool false) ∧ W.cell? ⟨g, 0, none⟩ = some (.slice As i cs)) wr.drew := hall _ L0.out.drew
      have hsb : ∀ w2, Below wr.drew.heap.size wr.drew w2 → (fun W : World => W.cell? ⟨gc, 0, none⟩ = some (.int .i64 20) ∧ W.cell? ⟨gc, 1, none⟩ = some (.int .i64 4) ∧ W.cell? ⟨gc, 2, none⟩ = some (.int .i64 1) ∧ W.cell? ⟨gc, 3, none⟩ = some (.int .i64 3) ∧ W.cell? ⟨gc, 4, none⟩ = some (.int .i64 2) ∧ W.cell? ⟨gc, 5, none⟩ = some (.int .i64 1) ∧ W.cell? ⟨gc, 6, none⟩ = some (.int .i64 0) ∧ W.cell? ⟨gc, 7, none⟩ = some (.int .i64 1) ∧ W.cell? ⟨gc, 8, none⟩ = some (.int .i64 1) ∧ W.cell? ⟨gc, 9, none⟩ = some (.int .i64 0) ∧ W.cell? ⟨gc, 10, none⟩ = some (.int .i64 0) ∧ W.cell? ⟨gc, 11, none⟩ = some (.int .i64 0) ∧ W.cell? ⟨gc, 12, none⟩ = some (.bool false) ∧ W.cell? ⟨g, 0, none⟩ = some (.slice As i cs)) w2 := fun w2 hb => hall _ (L0.out.drew.below hb)
      have hsc : ∀ w2, Below wr.drew.heap.size wr.drew w2 → (fun W : World => W.cell? ⟨gc, 0, none⟩ = some (.int .i64 20) ∧ W.cell? ⟨gc, 1, none⟩ = some (.int .i64 4) ∧ W.cell? ⟨gc, 2, none⟩ = some (.int .i64 1) ∧ W.cell? ⟨gc, 3, none⟩ = some (.int .i64 3) ∧ W.cell? ⟨gc, 4, none⟩ = some (.int .i64 2) ∧ W.cell? ⟨gc, 5, none⟩ = some (.int .i64 1) ∧ W.cell? ⟨gc, 6, none⟩ = some (.int .i64 0) ∧ W.cell? ⟨gc, 7, none⟩ = some (.int .i64 1) ∧ W.cell? ⟨gc, 8, none⟩ = some (.int .i64 1) ∧ W.cell? ⟨gc, 9, none⟩ = some (.int .i64 0) ∧ W.cell? ⟨gc, 10, none⟩ = some (.int .i64 0) ∧ W.cell? ⟨gc, 11, none⟩ = some (.int .i64 0) ∧ W.cell? ⟨gc, 12, none⟩ = some (.bool false) ∧ W.cell? ⟨g, 0, none⟩ = some (.slice As i cs)) (w2.alloc (.cells #[.int .i64 z] TI)) := fun w2 hb => hall _ ((L0.out.drew.below hb).alloc _)
      go_region_law (first
        | (go_simp; go_at_call 98; (with_reducible refine (hcl _).mono ?_); rintro e w2 ⟨rfl, hb⟩; have e0 := hsb _ hb; have e1 := hsc _ hb; obtain ⟨d0, d1, d2, d3, d4, d5, d6, d7, d8, d9, d10, d11, d12, d13⟩ := e0; obtain ⟨_, _, _, _, _, _, _, _, _, _, _, _, _, e13⟩ := e1; obtain ⟨Aa, ca, w5, hrun, hL⟩ := hpush _ hb; have m1 := hL.cR 1 0 rfl rfl; have m2 := hL.zR 1 0 rfl; have HL := Lib.hid (hL.putR 1 0 (.slice Aa (i + 1) ca) rfl (by rfl)))
        | (refine step_append_run rfl _ _ _ rfl _ _ _ _ rfl rfl hrun ?_))
      all_goals clear hpush hsb hsc hall hs0 hcl hz hb m1 m2 hL hrun
      all_goals go_wp2_with fail
      all_goals go_roundw
      all_goals first
        | exact ⟨i + 1, Aa, ca, by omega, by go_num, Lib.hid (by rw [cl_take hlt, hzz.out]; exact HL.out)⟩
        | (simp [intOf]; omega)
        | simp [intOf]
    · obtain rfl : i = 6 := by omega
      clear hlt
      have L1 : Hid (Lo w0 lo hi b rb hq A B (X ++ [bx g TLb #[.slice As 6 cs, .slice none 0 0], rv TI 1 (.slice As 6 cs) 6 (is (clsl.take 6))]) wr) := Lib.hid (Lo.sub L0.out ((List.sublist_cons_self _ _).append_left X))
      have L2 : Hid (Lo w0 lo hi b rb hq A B (X ++ [bx g TLb #[.slice As 6 cs, .slice none 0 0], rd .i64 (.slice As 6 cs) clsl]) wr) := Lib.hid (L1.out.seeR 1 rfl (rdr_own (T := TI) (B := 0) (xs := clsl) (L1.out.isR 1 rfl)) (fun _ h => h))
      have L3 := Lib.hid (Lo.glue3 (Lo.nilVR L2.out TFr 2))
      clear L0 L1 L2
      go_wp2_with fail
      go_ret
      exact ⟨g, As, cs, rfl, L3.out⟩

theorem lb_add {w0 w : World} {lo hi b rb : Nat} {A B : Int → List Int} {X : List Ob} {g n m cs cw cx : Nat} {As Aw p : Option Addr} {ws : WL} {xs : List Int} {v : Int} (hwn : ws.length = n) (hn : n + m ≤ 1000) (hx : Rdb X (.slice p m cx) xs) (h : Lo w0 lo hi b rb hq A B (X ++ [bx g TLb #[.slice As 6 cs, .slice Aw n cw], rd .i64 (.slice As 6 cs) clsl, rv TFr 2 (.slice Aw n cw) n (fcs ws)]) w) : Calls Try.prog 52 #[.pointer (some ⟨g, 0, none⟩), .int .i64 v, .slice p m cx] w fun e w' => e = .returned (.tuple #[]) ∧ ∃ Ak ck nk ks, ks = ws ++ adds v xs ∧ ks.length = nk ∧ Lo w0 lo hi b rb hq A B (X ++ [bx g TLb #[.slice As 6 cs, .slice Ak nk ck], rd .i64 (.slice As 6 cs) clsl, rv TFr 2 (.slice Ak nk ck) nk (fcs ks)]) w' := by
  have L0 := Lib.hid h
  clear h
  have HX := Lib.hid hx
  clear hx
  go_enter Try.func52, Try.ntmps52
  have c0_0_0 : w.cell? ⟨g, 0, none⟩ = some (.slice As 6 cs) := L0.out.cR 0 0 rfl rfl
  go_wp2_with fail
  go_loopw [12] (fun iv wr => ∃ (i : Nat) (Ak : Option Addr) (ck nk : Nat) (ks : WL), i ≤ m ∧ iv = .int .i64 i ∧ nk ≤ n + i ∧ Hid (ks = ws ++ adds v (xs.take i)) ∧ Hid (ks.length = nk) ∧ Hid (Lo w0 lo hi b rb hq A B (X ++ [bx g TLb #[.slice As 6 cs, .slice Ak nk ck], rd .i64 (.slice As 6 cs) clsl, rv TFr 2 (.slice Ak nk ck) nk (fcs ks)]) wr)) (fun iv _ => m - (intOf iv).toNat)
  case atStart => exact ⟨0, Aw, cw, n, ws, by omega, rfl, by omega, Lib.hid (by simp [adds]), Lib.hid hwn, L0⟩
  case round =>
    clear L0 c0_0_0
    obtain ⟨i, Ak, ck, nk, ks, him, rfl, hnk, HK, HKN, L0⟩ := hrel
    by_cases hlt : i < m
    · have hltI : (i : Int) < m := by omega
      obtain ⟨hxm, hxp⟩ := HX.out.some L0.out
      obtain ⟨gx, ox, rfl⟩ := hxp (by omega)
      have hxi : xs[i]? = some (xs[i]'(by omega)) := List.getElem?_eq_getElem _
      obtain ⟨x, hxe⟩ : ∃ x, xs[i]'(by omega) = x := ⟨_, rfl⟩
      rw [hxe] at hxi
      clear hxe hxp
      have r0 := HX.out.cell L0.out hxi
      have c0_0_0 : wr.cell? ⟨g, 0, none⟩ = some (.slice As 6 cs) := L0.out.cR 0 0 rfl rfl
      by_cases h0 : 0 ≤ x
      · by_cases h6 : x < 6
        · obtain ⟨k, hk⟩ : ∃ k : Nat, x = (k : Int) := ⟨x.toNat, by omega⟩
          subst hk
          have HK2 : Hid (ks ++ [(k, v)] = ws ++ adds v (xs.take (i + 1))) := Lib.hid (by rw [adds_yes hxi ⟨h0, h6⟩, HK.out, List.append_assoc]; rfl)
          have HKN2 : Hid ((ks ++ [(k, v)]).length = nk + 1) := Lib.hid (by rw [List.length_append, HKN.out]; rfl)
          obtain ⟨Aa, ca, w5, hrun, hL⟩ := Lo.pushF L0.out 2 rfl (by omega) k v
          have c0_0_1 : wr.cell? ⟨g, 1, none⟩ = some (.slice Ak nk ck) := L0.out.cR 0 1 rfl rfl
          have m1 := hL.cR 0 1 rfl rfl
          have m2 := hL.zR 0 1 rfl
          have L1 : Hid (Lo w0 lo hi b rb hq A B (X ++ [bx g TLb #[.slice As 6 cs, .slice Aa (nk + 1) ca], rd .i64 (.slice As 6 cs) clsl, rv TFr 2 (.slice Aa (nk + 1) ca) (nk + 1) (fcs (ks ++ [(k, v)]))]) ((w5.setCell ⟨g, 1, none⟩ (.slice Aa (nk + 1) ca)))) := Lib.hid (hL.putR 0 1 (.slice Aa (nk + 1) ca) rfl (by rfl))
          clear hL L0
          go_wp2_with (at_builtin; refine wpList_append_run rfl _ _ _ rfl hrun (by rfl) (by rfl) ?_; clear hrun)
          go_roundw
          case rel => exact ⟨i + 1, Aa, ca, nk + 1, _, by omega, by go_num, by omega, HK2, HKN2, L1⟩
          case measure => (first | (simp [intOf]; omega) | simp [intOf])
        · have h6 : 6 ≤ x := by omega
          have HK2 : Hid (ks = ws ++ adds v (xs.take (i + 1))) := Lib.hid (by rw [adds_no hxi (by omega)]; exact HK.out)
          go_wp2_with fail
          go_roundw
          case rel => exact ⟨i + 1, Ak, ck, nk, ks, by omega, by go_num, by omega, HK2, HKN, L0⟩
          case measure => (first | (simp [intOf]; omega) | simp [intOf])
      · have h0 : x < 0 := by omega
        have HK2 : Hid (ks = ws ++ adds v (xs.take (i + 1))) := Lib.hid (by rw [adds_no hxi (by omega)]; exact HK.out)
        go_wp2_with fail
        go_roundw
        case rel => exact ⟨i + 1, Ak, ck, nk, ks, by omega, by go_num, by omega, HK2, HKN, L0⟩
        case measure => (first | (simp [intOf]; omega) | simp [intOf])
    · obtain rfl : i = m := by omega
      have HK2 : Hid (ks = ws ++ adds v xs) := Lib.hid (by rw [HK.out, List.take_of_length_le (by have := (HX.out.some L0.out).1; omega)])
      clear hlt HK
      go_wp2_with fail
      refine bodyPost_end (results_none (by rfl) _ _ _) rfl ?_
      exact ⟨rfl, Ak, ck, nk, ks, HK2.out, HKN.out, L0.out⟩

theorem lb_blocks {w0 w : World} {lo hi b rb : Nat} {A B : Int → List Int} {X : List Ob} {g n cs cw : Nat} {As Aw : Option Addr} {ws : WL} (hwn : ws.length = n) (hn : n ≤ 1000) (h : Lo w0 lo hi b rb hq A B (X ++ [bx g TLb #[.slice As 6 cs, .slice Aw n cw], rd .i64 (.slice As 6 cs) clsl, rv TFr 2 (.slice Aw n cw) n (fcs ws)]) w) : Calls Try.prog 63 #[.pointer (some ⟨g, 0, none⟩)] w fun e w' => ∃ Ao co, e = .returned (.slice Ao n co) ∧ Lo w0 lo hi b rb hq A B (X ++ [bx g TLb #[.slice As 6 cs, .slice Aw n cw], rd .i64 (.slice As 6 cs) clsl, rv TFr 2 (.slice Aw n cw) n (fcs ws), rv TI 1 (.slice Ao n co) n (is (bsI ws))]) w' := by
  have L0 := Lib.hid h
  clear h
  go_enter Try.func63, Try.ntmps63
  have c0_0_1 : w.cell? ⟨g, 1, none⟩ = some (.slice Aw n cw) := L0.out.cR 0 1 rfl rfl
  go_wp2_with fail
  have L1 : Hid (Lo w0 lo hi b rb hq A B (X ++ [bx g TLb #[.slice As 6 cs, .slice Aw n cw], rd .i64 (.slice As 6 cs) clsl, rv TFr 2 (.slice Aw n cw) n (fcs ws), rv TI 1 (.slice none 0 0) 0 (is ((bsI ws).take 0))]) w) := Lib.hid (Lo.nilVR L0.out TI 1)
  go_loopw [3, 13] (fun ov iv wr => ∃ (i : Nat) (Ao : Option Addr) (co : Nat), i ≤ n ∧ iv = .int .i64 i ∧ ov = .slice Ao i co ∧ Hid (Lo w0 lo hi b rb hq A B (X ++ [bx g TLb #[.slice As 6 cs, .slice Aw n cw], rd .i64 (.slice As 6 cs) clsl, rv TFr 2 (.slice Aw n cw) n (fcs ws), rv TI 1 (.slice Ao i co) i (is ((bsI ws).take i))]) wr)) (fun _ iv _ => n - (intOf iv).toNat)
  case atStart => exact ⟨0, none, 0, by omega, rfl, rfl, L1⟩
  case round =>
    clear L0 L1
    obtain ⟨i, Ao, co, hin, rfl, rfl, L0⟩ := hrel
    by_cases hlt : i < n
    · have hltI : (i : Int) < n := by omega
      obtain ⟨⟨kb, kv⟩, hp⟩ : ∃ p, ws[i]? = some p := ⟨_, List.getElem?_eq_getElem (by omega)⟩
      obtain ⟨gw, cw2, he, hcw⟩ := rv_cells (L0.out.isR 2 rfl : (rv TFr 2 (.slice Aw n cw) n (fcs ws)).is wr) (by omega)
      injection he with he1 he2 he3
      subst he1
      clear he2 he3
      have r0 : wr.cell? ⟨gw, i * 2, none⟩ = some (.int .i64 kb) := hcw _ _ (fcs_at hp).1
      have r1 : wr.cell? ⟨gw, i * 2 + 1, none⟩ = some (.int .i64 kv) := hcw _ _ (fcs_at hp).2
      clear hcw
      have htk : Hid ((bsI ws).take (i + 1) = (bsI ws).take i ++ [(kb : Int)]) := Lib.hid (by rw [List.take_add_one, show (bsI ws)[i]? = some (kb : Int) by simp [bsI, hp]]; rfl)
      go_upto_region 7 with (fail)
      have L1 := Lib.hid (L0.out.newR TFr #[.int .i64 kb, .int .i64 kv])
      obtain ⟨gf, hn⟩ : ∃ gf, wr.heap.size = gf := ⟨_, rfl⟩
      rw [hn] at L1
      first | rw [hn] | skip
      clear hn
      obtain ⟨W1, hW⟩ : ∃ W', wr.alloc (.cells #[.int .i64 kb, .int .i64 kv] TFr) = W' := ⟨_, rfl⟩
      rw [hW] at L1
      first | rw [hW] | skip
      clear hW
      have L1 : Hid (Lo w0 lo hi b rb hq A B (X ++ [bx g TLb #[.slice As 6 cs, .slice (some ⟨gw, 0, none⟩) n cw], rd .i64 (.slice As 6 cs) clsl, rv TFr 2 (.slice (some ⟨gw, 0, none⟩) n cw) n (fcs ws), rv TI 1 (.slice Ao i co) i (is ((bsI ws).take i)), bx gf TFr #[.int .i64 kb, .int .i64 kv]]) W1) := L1
      clear L0
      have c1_4_0 : W1.cell? ⟨gf, 0, none⟩ = some (.int .i64 kb) := L1.out.cR 4 0 rfl rfl
      have c1_4_1 : W1.cell? ⟨gf, 1, none⟩ = some (.int .i64 kv) := L1.out.cR 4 1 rfl rfl
      obtain ⟨Aa, ca, w5, hrun, hL⟩ := Lo.pushI L1.out 3 rfl (by omega) (kb : Int)
      have LN : Hid (Lo w0 lo hi b rb hq A B (X ++ [bx g TLb #[.slice As 6 cs, .slice (some ⟨gw, 0, none⟩) n cw], rd .i64 (.slice As 6 cs) clsl, rv TFr 2 (.slice (some ⟨gw, 0, none⟩) n cw) n (fcs ws), rv TI 1 (.slice Aa (i + 1) ca) (i + 1) (is ((bsI ws).take i ++ [(kb : Int)]))]) w5) := Lib.hid (Lo.dropR (rs2 := [bx gf TFr #[.int .i64 kb, .int .i64 kv]]) hL)
      clear hL L1
      go_wp2_with (at_builtin; refine wpList_append_run rfl _ _ _ rfl hrun (by rfl) (by rfl) ?_; clear hrun)
      go_roundw
      case rel => exact ⟨i + 1, Aa, ca, by omega, by go_num, rfl, Lib.hid (by rw [htk.out]; exact LN.out)⟩
      case measure => (first | (simp [intOf]; omega) | simp [intOf])
    · obtain rfl : i = n := by omega
      have htk : Hid ((bsI ws).take i = bsI ws) := Lib.hid (List.take_of_length_le (by unfold bsI; rw [List.length_map]; omega))
      clear hlt
      go_wp2_with fail
      go_ret
      exact ⟨Ao, co, rfl, by have := L0.out; rw [htk.out] at this; exact this⟩

theorem lb_versions {w0 w : World} {lo hi b rb : Nat} {A B : Int → List Int} {X : List Ob} {g n cs cw : Nat} {As Aw : Option Addr} {ws : WL} (hwn : ws.length = n) (hn : n ≤ 1000) (h : Lo w0 lo hi b rb hq A B (X ++ [bx g TLb #[.slice As 6 cs, .slice Aw n cw], rd .i64 (.slice As 6 cs) clsl, rv TFr 2 (.slice Aw n cw) n (fcs ws)]) w) : Calls Try.prog 64 #[.pointer (some ⟨g, 0, none⟩)] w fun e w' => ∃ Ao co, e = .returned (.slice Ao n co) ∧ Lo w0 lo hi b rb hq A B (X ++ [bx g TLb #[.slice As 6 cs, .slice Aw n cw], rd .i64 (.slice As 6 cs) clsl, rv TFr 2 (.slice Aw n cw) n (fcs ws), rv TI 1 (.slice Ao n co) n (is (vsI ws))]) w' := by
  have L0 := Lib.hid h
  clear h
  go_enter Try.func64, Try.ntmps64
  have c0_0_1 : w.cell? ⟨g, 1, none⟩ = some (.slice Aw n cw) := L0.out.cR 0 1 rfl rfl
  go_wp2_with fail
  have L1 : Hid (Lo w0 lo hi b rb hq A B (X ++ [bx g TLb #[.slice As 6 cs, .slice Aw n cw], rd .i64 (.slice As 6 cs) clsl, rv TFr 2 (.slice Aw n cw) n (fcs ws), rv TI 1 (.slice none 0 0) 0 (is ((vsI ws).take 0))]) w) := Lib.hid (Lo.nilVR L0.out TI 1)
  go_loopw [3, 13] (fun ov iv wr => ∃ (i : Nat) (Ao : Option Addr) (co : Nat), i ≤ n ∧ iv = .int .i64 i ∧ ov = .slice Ao i co ∧ Hid (Lo w0 lo hi b rb hq A B (X ++ [bx g TLb #[.slice As 6 cs, .slice Aw n cw], rd .i64 (.slice As 6 cs) clsl, rv TFr 2 (.slice Aw n cw) n (fcs ws), rv TI 1 (.slice Ao i co) i (is ((vsI ws).take i))]) wr)) (fun _ iv _ => n - (intOf iv).toNat)
  case atStart => exact ⟨0, none, 0, by omega, rfl, rfl, L1⟩
  case round =>
    clear L0 L1
    obtain ⟨i, Ao, co, hin, rfl, rfl, L0⟩ := hrel
    by_cases hlt : i < n
    · have hltI : (i : Int) < n := by omega
      obtain ⟨⟨kb, kv⟩, hp⟩ : ∃ p, ws[i]? = some p := ⟨_, List.getElem?_eq_getElem (by omega)⟩
      obtain ⟨gw, cw2, he, hcw⟩ := rv_cells (L0.out.isR 2 rfl : (rv TFr 2 (.slice Aw n cw) n (fcs ws)).is wr) (by omega)
      injection he with he1 he2 he3
      subst he1
      clear he2 he3
      have r0 : wr.cell? ⟨gw, i * 2, none⟩ = some (.int .i64 kb) := hcw _ _ (fcs_at hp).1
      have r1 : wr.cell? ⟨gw, i * 2 + 1, none⟩ = some (.int .i64 kv) := hcw _ _ (fcs_at hp).2
      clear hcw
      have htk : Hid ((vsI ws).take (i + 1) = (vsI ws).take i ++ [kv]) := Lib.hid (by rw [List.take_add_one, show (vsI ws)[i]? = some kv by simp [vsI, hp]]; rfl)
      go_upto_region 7 with (fail)
      have L1 := Lib.hid (L0.out.newR TFr #[.int .i64 kb, .int .i64 kv])
      obtain ⟨gf, hn⟩ : ∃ gf, wr.heap.size = gf := ⟨_, rfl⟩
      rw [hn] at L1
      first | rw [hn] | skip
      clear hn
      obtain ⟨W1, hW⟩ : ∃ W', wr.alloc (.cells #[.int .i64 kb, .int .i64 kv] TFr) = W' := ⟨_, rfl⟩
      rw [hW] at L1
      first | rw [hW] | skip
      clear hW
      have L1 : Hid (Lo w0 lo hi b rb hq A B (X ++ [bx g TLb #[.slice As 6 cs, .slice (some ⟨gw, 0, none⟩) n cw], rd .i64 (.slice As 6 cs) clsl, rv TFr 2 (.slice (some ⟨gw, 0, none⟩) n cw) n (fcs ws), rv TI 1 (.slice Ao i co) i (is ((vsI ws).take i)), bx gf TFr #[.int .i64 kb, .int .i64 kv]]) W1) := L1
      clear L0
      have c1_4_0 : W1.cell? ⟨gf, 0, none⟩ = some (.int .i64 kb) := L1.out.cR 4 0 rfl rfl
      have c1_4_1 : W1.cell? ⟨gf, 1, none⟩ = some (.int .i64 kv) := L1.out.cR 4 1 rfl rfl
      obtain ⟨Aa, ca, w5, hrun, hL⟩ := Lo.pushI L1.out 3 rfl (by omega) kv
      have LN : Hid (Lo w0 lo hi b rb hq A B (X ++ [bx g TLb #[.slice As 6 cs, .slice (some ⟨gw, 0, none⟩) n cw], rd .i64 (.slice As 6 cs) clsl, rv TFr 2 (.slice (some ⟨gw, 0, none⟩) n cw) n (fcs ws), rv TI 1 (.slice Aa (i + 1) ca) (i + 1) (is ((vsI ws).take i ++ [kv]))]) w5) := Lib.hid (Lo.dropR (rs2 := [bx gf TFr #[.int .i64 kb, .int .i64 kv]]) hL)
      clear hL L1
      go_wp2_with (at_builtin; refine wpList_append_run rfl _ _ _ rfl hrun (by rfl) (by rfl) ?_; clear hrun)
      go_roundw
      case rel => exact ⟨i + 1, Aa, ca, by omega, by go_num, rfl, Lib.hid (by rw [htk.out]; exact LN.out)⟩
      case measure => (first | (simp [intOf]; omega) | simp [intOf])
    · obtain rfl : i = n := by omega
      have htk : Hid ((vsI ws).take i = vsI ws) := Lib.hid (List.take_of_length_le (by unfold vsI; rw [List.length_map]; omega))
      clear hlt
      go_wp2_with fail
      go_ret
      exact ⟨Ao, co, rfl, by have := L0.out; rw [htk.out] at this; exact this⟩

theorem fin_tq : True := trivial
/-- The world while a block's push is made and put at the end of the row. -/
def Tq (a b c d e : World) (l1 l2 l3 l4 : Bool) (w : World) : Prop :=
  match l1, l2, l3, l4 with
  | false, _, _, _ => w = a
  | true, false, _, _ => w = b
  | true, true, false, _ => w = c
  | true, true, true, false => w = d
  | true, true, true, true => w = e
theorem tq_any {Pr : World → Prop} {a b c d e : World} {l1 l2 l4 : Bool} {w : World} (h : Tq a b c d e l1 l2 false l4 w) (ha : Pr a) (hb : Pr b) (hc : Pr c) : Pr w := by
  cases l1 <;> cases l2
  · exact (show w = a from h) ▸ ha
  · exact (show w = a from h) ▸ ha
  · exact (show w = b from h) ▸ hb
  · exact (show w = c from h) ▸ hc
/-- append, run in a known way, as an operation. -/
theorem oper_append_run {P : Program} {o : Oper} {a : Act} {w : World} {K : Act → World → Prop} {Q : Exit → Act → World → Prop} (hg : o.guard = none) (s x : Operand) (t : TypeId) (hop : o.op = Op.call { callee := Callee.builtin Builtin.append, args := #[s, x], argTypes := #[t, t] })
    (vs vx v : Value) (w' : World) (hs : a.eval s = vs) (hx : a.eval x = vx) (hrun : (Builtin.append_ #[t, t] o.type #[vs, vx]).run P w = .ok v w') (hK : K (a.put o.dst v) w') : Oper.wp P o a w K Q := by
  unfold Oper.wp
  simp [execOp, hop, resolve, invoke, builtin, hs, hx, hrun, Result.andThen]
  exact hK

theorem fin_perm (a b c d e f g : Ob) : [a, b, c, d, e, f, g].Perm [c, a, b, g, d, e, f] :=
  (((List.perm_append_comm (l₁ := [a, b]) (l₂ := [c])).append_right [d, e, f, g]).trans ((List.perm_append_comm (l₁ := [d, e, f]) (l₂ := [g])).append_left [c, a, b]))
theorem fin_sub (X : List Ob) (a b c d e f g : Ob) : (X ++ [a, b, g, d, e, f]).Sublist (X ++ [c, a, b, g, d, e, f]) := (List.sublist_cons_self _ _).append_left X

theorem lb_drain {w0 w : World} {lo hi b rb : Nat} {A B : Int → List Int} {X : List Ob} {g n cs cw : Nat} {As Aw : Option Addr} {ws : WL} {z : Int} (hwn : ws.length = n) (hn : n ≤ 1000) (hwk : WOk ws) (h : Lo w0 lo hi b rb hq A B (X ++ [bx g TLb #[.slice As 6 cs, .slice Aw n cw], rd .i64 (.slice As 6 cs) clsl, rv TFr 2 (.slice Aw n cw) n (fcs ws)]) w) : Calls Try.prog 55 #[.pointer (some ⟨g, 0, none⟩), .int .i64 z] w fun e w' => ∃ gd Ap np cp ps Ak nk ck ks, e = .returned (.pointer (some ⟨gd, 0, none⟩)) ∧ ps.map Prod.snd = (tk z ws).map Prod.fst ∧ ps.length = np ∧ ks = kp z ws ∧ ks.length = nk ∧ Lo w0 lo hi b rb hq A B (X ++ [bx g TLb #[.slice As 6 cs, .slice Ak nk ck], rd .i64 (.slice As 6 cs) clsl, rv TFr 2 (.slice Ak nk ck) nk (fcs ks), bx gd TDr #[.slice Ap np cp], rdv (.slice Ap np cp) (ptrs ps), bxs ps]) w' := by
  have L0 := Lib.hid h
  clear h
  have HWK := Lib.hid hwk
  clear hwk
  go_enter Try.func55, Try.ntmps55
  go_upto_region 2 with (fail)
  have L1 := Lib.hid (L0.out.newR TDr #[.slice none 0 0])
  obtain ⟨gd, hn⟩ : ∃ gd, w.heap.size = gd := ⟨_, rfl⟩
  rw [hn] at L1
  first | rw [hn] | skip
  clear hn
  obtain ⟨W1, hW⟩ : ∃ W', w.alloc (.cells #[.slice none 0 0] TDr) = W' := ⟨_, rfl⟩
  rw [hW] at L1
  first | rw [hW] | skip
  clear hW
  have L1 : Hid (Lo w0 lo hi b rb hq A B (X ++ [bx g TLb #[.slice As 6 cs, .slice Aw n cw], rd .i64 (.slice As 6 cs) clsl, rv TFr 2 (.slice Aw n cw) n (fcs ws), bx gd TDr #[.slice none 0 0]]) W1) := L1
  clear L0
  have c1_0_1 : W1.cell? ⟨g, 1, none⟩ = some (.slice Aw n cw) := L1.out.cR 0 1 rfl rfl
  go_wp2_with fail
  have L2 : Hid (Lo w0 lo hi b rb hq A B (X ++ [bx g TLb #[.slice As 6 cs, .slice Aw n cw], rd .i64 (.slice As 6 cs) clsl, rv TFr 2 (.slice Aw n cw) n (fcs ws), bx gd TDr #[.slice none 0 0], rv TPp 1 (.slice none 0 0) 0 (ptrs []), bxs [], rv TFr 2 (.slice none 0 0) 0 (fcs [])]) W1) := Lib.hid (Lo.nilVR (Lo.addR (rs := [bx g TLb #[.slice As 6 cs, .slice Aw n cw], rd .i64 (.slice As 6 cs) clsl, rv TFr 2 (.slice Aw n cw) n (fcs ws), bx gd TDr #[.slice none 0 0], rv TPp 1 (.slice none 0 0) 0 []]) (Lo.nilVR L1.out TPp 1) (Below.refl _ _) (o := bxs []) trivial (fun g hg => absurd hg List.not_mem_nil)) TFr 2)
  clear L1 c1_0_1
  go_loopw [6, 19] (fun kv iv wr => ∃ (i np nk cp ck : Nat) (Ap Ak : Option Addr) (ps : PL) (ks : WL), i ≤ n ∧ iv = .int .i64 i ∧ kv = .slice Ak nk ck ∧ np ≤ i ∧ nk ≤ i ∧ Hid (ps.length = np ∧ ps.map Prod.snd = (tk z (ws.take i)).map Prod.fst) ∧ Hid (ks = kp z (ws.take i)) ∧ Hid (ks.length = nk) ∧ Hid (Lo w0 lo hi b rb hq A B (X ++ [bx g TLb #[.slice As 6 cs, .slice Aw n cw], rd .i64 (.slice As 6 cs) clsl, rv TFr 2 (.slice Aw n cw) n (fcs ws), bx gd TDr #[.slice Ap np cp], rv TPp 1 (.slice Ap np cp) np (ptrs ps), bxs ps, rv TFr 2 (.slice Ak nk ck) nk (fcs ks)]) wr)) (fun _ iv _ => n - (intOf iv).toNat)
  case atStart => exact ⟨0, 0, 0, 0, 0, none, none, [], [], by omega, rfl, rfl, by omega, by omega, Lib.hid ⟨rfl, rfl⟩, Lib.hid rfl, Lib.hid rfl, L2⟩
  case round =>
    clear L2
    obtain ⟨i, np, nk, cp, ck, Ap, Ak, ps, ks, hin, rfl, rfl, hnp, hnk, HP, HK, HKN, L0⟩ := hrel
    by_cases hlt : i < n
    · have hltI : (i : Int) < n := by omega
      obtain ⟨⟨kb, kv⟩, hp⟩ : ∃ p, ws[i]? = some p := ⟨_, List.getElem?_eq_getElem (by omega)⟩
      obtain ⟨gw, cw2, he, hcw⟩ := rv_cells (L0.out.isR 2 rfl : (rv TFr 2 (.slice Aw n cw) n (fcs ws)).is wr) (by omega)
      injection he with he1 he2 he3
      subst he1
      clear he2 he3
      have r0 : wr.cell? ⟨gw, i * 2, none⟩ = some (.int .i64 kb) := hcw _ _ (fcs_at hp).1
      have r1 : wr.cell? ⟨gw, i * 2 + 1, none⟩ = some (.int .i64 kv) := hcw _ _ (fcs_at hp).2
      clear hcw
      have hb6 := HWK.out.at_ hp
      go_upto_region 8 with (fail)
      have L1 := Lib.hid (L0.out.newR TFr #[.int .i64 kb, .int .i64 kv])
      obtain ⟨gf, hn⟩ : ∃ gf, wr.heap.size = gf := ⟨_, rfl⟩
      rw [hn] at L1
      first | rw [hn] | skip
      clear hn
      obtain ⟨W1, hW⟩ : ∃ W', wr.alloc (.cells #[.int .i64 kb, .int .i64 kv] TFr) = W' := ⟨_, rfl⟩
      rw [hW] at L1
      first | rw [hW] | skip
      clear hW
      have L1 : Hid (Lo w0 lo hi b rb hq A B (X ++ [bx g TLb #[.slice As 6 cs, .slice (some ⟨gw, 0, none⟩) n cw], rd .i64 (.slice As 6 cs) clsl, rv TFr 2 (.slice (some ⟨gw, 0, none⟩) n cw) n (fcs ws), bx gd TDr #[.slice Ap np cp], rv TPp 1 (.slice Ap np cp) np (ptrs ps), bxs ps, rv TFr 2 (.slice Ak nk ck) nk (fcs ks), bx gf TFr #[.int .i64 kb, .int .i64 kv]]) W1) := L1
      clear L0
      have c1_7_0 : W1.cell? ⟨gf, 0, none⟩ = some (.int .i64 kb) := L1.out.cR 7 0 rfl rfl
      have c1_7_1 : W1.cell? ⟨gf, 1, none⟩ = some (.int .i64 kv) := L1.out.cR 7 1 rfl rfl
      by_cases hz : kv ≤ z
      · have HT := Lib.hid (tk_yes hp hz)
        go_upto_region 9 with (fail)
        have rs : RdR .i64 W1 (.slice As 6 cs) clsl := L1.out.isR 1 rfl
        obtain ⟨gs, os, cs2, he, _, _, hcs⟩ := rs.cell (by decide)
        injection he with he1 he2 he3
        subst he1
        clear he2 he3 rs
        have hck : clsl[kb]? = some (cl kb : Int) := by
          have : kb = 0 ∨ kb = 1 ∨ kb = 2 ∨ kb = 3 ∨ kb = 4 ∨ kb = 5 := by omega
          rcases this with rfl | rfl | rfl | rfl | rfl | rfl <;> rfl
        have rc : W1.cell? ⟨gs, os + kb, none⟩ = some (.int .i64 (cl kb : Int)) := hcs _ _ hck
        clear hcs
        have hkI : (kb : Int) < 6 := by omega
        have c1_0_0 : W1.cell? ⟨g, 0, none⟩ = some (.slice (some ⟨gs, os, none⟩) 6 cs) := L1.out.cR 0 0 rfl rfl
        have c1_3_0 : W1.cell? ⟨gd, 0, none⟩ = some (.slice Ap np cp) := L1.out.cR 3 0 rfl rfl
        have hnew := u_new (cl kb) kb W1.drew
        have LP := Lib.hid (L1.out.drew.newR TPu #[.int .i64 0, .int .i64 (cl kb : Int), .int .i64 kb, .int .u64 0])
        obtain ⟨gq, hgq⟩ : ∃ gq, W1.drew.heap.size = gq := ⟨_, rfl⟩
        obtain ⟨W2, hW2⟩ : ∃ W2, W1.drew.alloc (.cells #[.int .i64 0, .int .i64 (cl kb : Int), .int .i64 kb, .int .u64 0] TPu) = W2 := ⟨_, rfl⟩
        rw [hW2] at LP hnew
        rw [hgq] at LP hnew
        clear hW2 hgq
        obtain ⟨Aa, ca, w5, hrun, hL⟩ := Lo.pushP LP.out 4 rfl (by omega) gq
        have hd0 : Hid (W1.drew.cell? ⟨gd, 0, none⟩ = some (.slice Ap np cp) ∧ W1.drew.cell? ⟨g, 0, none⟩ = some (.slice (some ⟨gs, os, none⟩) 6 cs) ∧ W1.drew.cell? ⟨gf, 0, none⟩ = some (.int .i64 kb) ∧ W1.drew.cell? ⟨gs, os + kb, none⟩ = some (.int .i64 (cl kb : Int))) := Lib.hid ⟨L1.out.drew.cR 3 0 rfl rfl, L1.out.drew.cR 0 0 rfl rfl, L1.out.drew.cR 7 0 rfl rfl, L1.out.drew.rR 1 rfl kb hck⟩
        have hd1 : Hid (W2.cell? ⟨gd, 0, none⟩ = some (.slice Ap np cp)) := Lib.hid (LP.out.cR 3 0 rfl rfl)
        have hd2 : Hid (((W2.alloc (.cells #[PV gq] TPp))).cell? ⟨gd, 0, none⟩ = some (.slice Ap np cp)) := Lib.hid ((LP.out.alloc _).cR 3 0 rfl rfl)
        have hd3 : Hid (w5.cell? ⟨gd, 0, none⟩ = some (.slice Ap np cp) ∧ w5.frozen? ⟨gd, 0, none⟩ = false) := Lib.hid ⟨hL.cR 3 0 rfl rfl, hL.zR 3 0 rfl⟩
        clear hck
        clear c1_7_0 c1_7_1 c1_0_0 c1_3_0 rc
        have LQ : Hid (Lo w0 lo hi b rb hq A B (X ++ [bx g TLb #[.slice (some ⟨gs, os, none⟩) 6 cs, .slice (some ⟨gw, 0, none⟩) n cw], rd .i64 (.slice (some ⟨gs, os, none⟩) 6 cs) clsl, rv TFr 2 (.slice (some ⟨gw, 0, none⟩) n cw) n (fcs ws), bx gd TDr #[.slice Aa (np + 1) ca], rv TPp 1 (.slice Aa (np + 1) ca) (np + 1) (ptrs ps ++ [PV gq]), bxs ps, rv TFr 2 (.slice Ak nk ck) nk (fcs ks), bx gf TFr #[.int .i64 kb, .int .i64 kv], bx gq TPu #[.int .i64 0, .int .i64 (cl kb : Int), .int .i64 kb, .int .u64 0]]) ((w5.setCell ⟨gd, 0, none⟩ (.slice Aa (np + 1) ca)))) := Lib.hid (hL.putR 3 0 (.slice Aa (np + 1) ca) rfl (by rfl))
        have LJ : Hid (Lo w0 lo hi b rb hq A B (X ++ [bx g TLb #[.slice (some ⟨gs, os, none⟩) 6 cs, .slice (some ⟨gw, 0, none⟩) n cw], rd .i64 (.slice (some ⟨gs, os, none⟩) 6 cs) clsl, rv TFr 2 (.slice (some ⟨gw, 0, none⟩) n cw) n (fcs ws), bx gd TDr #[.slice Aa (np + 1) ca], rv TPp 1 (.slice Aa (np + 1) ca) (np + 1) (ptrs ps ++ [PV gq]), joi (bxs ps) (bx (gq) TPu #[.int .i64 0, .int .i64 (cl kb : Int), .int .i64 kb, .int .u64 0]), rv TFr 2 (.slice Ak nk ck) nk (fcs ks), bx gf TFr #[.int .i64 kb, .int .i64 kv]]) ((w5.setCell ⟨gd, 0, none⟩ (.slice Aa (np + 1) ca)))) := Lib.hid (Lo.joinR (rs := [bx g TLb #[.slice (some ⟨gs, os, none⟩) 6 cs, .slice (some ⟨gw, 0, none⟩) n cw], rd .i64 (.slice (some ⟨gs, os, none⟩) 6 cs) clsl, rv TFr 2 (.slice (some ⟨gw, 0, none⟩) n cw) n (fcs ws), bx gd TDr #[.slice Aa (np + 1) ca], rv TPp 1 (.slice Aa (np + 1) ca) (np + 1) (ptrs ps ++ [PV gq]), bxs ps, rv TFr 2 (.slice Ak nk ck) nk (fcs ks), bx gf TFr #[.int .i64 kb, .int .i64 kv]]) LQ.out 5 rfl)
        have LS : Hid (Lo w0 lo hi b rb hq A B (X ++ [bx g TLb #[.slice (some ⟨gs, os, none⟩) 6 cs, .slice (some ⟨gw, 0, none⟩) n cw], rd .i64 (.slice (some ⟨gs, os, none⟩) 6 cs) clsl, rv TFr 2 (.slice (some ⟨gw, 0, none⟩) n cw) n (fcs ws), bx gd TDr #[.slice Aa (np + 1) ca], rv TPp 1 (.slice Aa (np + 1) ca) (np + 1) (ptrs ps ++ [PV gq]), bxs (ps ++ [(gq, kb)]), rv TFr 2 (.slice Ak nk ck) nk (fcs ks), bx gf TFr #[.int .i64 kb, .int .i64 kv]]) ((w5.setCell ⟨gd, 0, none⟩ (.slice Aa (np + 1) ca)))) := Lib.hid (LJ.out.seeR 5 rfl (bxs_push (LJ.out.isR 5 rfl).1 (LJ.out.isR 5 rfl).2.1 (fun hg => (LJ.out.isR 5 rfl).2.2 _ hg (List.mem_singleton.2 rfl))) (fun x hx => by
          rw [bxs_fp, List.map_append, List.mem_append] at hx
          rcases hx with hx | hx
          · exact List.mem_append_left _ ((bxs_fp ps x).2 hx)
          · exact List.mem_append_right _ hx))
        have hpt : ptrs ps ++ [PV gq] = ptrs (ps ++ [(gq, kb)]) := by simp [ptrs]
        have LF : Hid (Lo w0 lo hi b rb hq A B (X ++ [bx g TLb #[.slice (some ⟨gs, os, none⟩) 6 cs, .slice (some ⟨gw, 0, none⟩) n cw], rd .i64 (.slice (some ⟨gs, os, none⟩) 6 cs) clsl, rv TFr 2 (.slice (some ⟨gw, 0, none⟩) n cw) n (fcs ws), bx gd TDr #[.slice Aa (np + 1) ca], rv TPp 1 (.slice Aa (np + 1) ca) (np + 1) (ptrs (ps ++ [(gq, kb)])), bxs (ps ++ [(gq, kb)]), rv TFr 2 (.slice Ak nk ck) nk (fcs ks)]) ((w5.setCell ⟨gd, 0, none⟩ (.slice Aa (np + 1) ca)))) := Lib.hid (by
          have h9 := LS.out
          rw [hpt] at h9
          exact Lo.dropR (rs2 := [bx gf TFr #[.int .i64 kb, .int .i64 kv]]) h9)
        have HP2 : Hid ((ps ++ [(gq, kb)]).length = np + 1 ∧ (ps ++ [(gq, kb)]).map Prod.snd = (tk z (ws.take (i + 1))).map Prod.fst) := Lib.hid ⟨by rw [List.length_append, HP.out.1]; rfl, by rw [HT.out.1, List.map_append, List.map_append, HP.out.2]; rfl⟩
        have HK2 : Hid (ks = kp z (ws.take (i + 1))) := Lib.hid (by rw [HT.out.2]; exact HK.out)
        clear LP hL LQ LJ LS hpt L1
        have HRUN := Lib.hid hrun
        have HNEW := Lib.hid hnew
        clear hrun hnew HT HP HK r0 r1 hp
        refine Rgn.region_lists (by kernel_rfl) [some 27, some 28, some 29, some 30, some 31, some 32, some 33, some 34, some 35, some 36, some 37, some 38, some 39, some 40, some 41, some 42, some 43, some 44, some 45, some 46, none]
          (fun gh => [.pointer (some ⟨gd, 0, none⟩), .pointer (some ⟨gd, 0, none⟩), .pointer (some ⟨gd, 0, none⟩), .pointer (some ⟨gd, 0, none⟩), .slice Ap np cp, .pointer (some ⟨g, 0, none⟩), .pointer (some ⟨g, 0, none⟩), .pointer (some ⟨g, 0, none⟩), .slice (some ⟨gs, os, none⟩) 6 cs, .pointer (some ⟨gf, 0, none⟩), .int .i64 kb, .pointer (some ⟨gs, os + kb, none⟩), .int .i64 (cl kb : Int), .pointer (some ⟨gf, 0, none⟩), .int .i64 kb, .pointer (some ⟨gq, 0, none⟩), .slice (some ⟨W2.heap.size, 0, none⟩) 1 1, .slice Aa (np + 1) ca, .pointer (some ⟨gd, 0, none⟩), .pointer (some ⟨gd, 0, none⟩), undef])
          (fun (gh : Unit) L w9 => Tq W1.drew W2 (W2.alloc (.cells #[PV gq] TPp)) w5 (w5.setCell ⟨gd, 0, none⟩ (.slice Aa (np + 1) ca)) (L 15) (L 16) (L 17) (L 20) w9) () 21 57 (by kernel_rfl) (by kernel_rfl) (fun _ => rfl) (by kernel_rfl) (by kernel_rfl) rfl ?_ ?_
        · intro i hi gh L a wq hS hLi hup hdn hold hv K hK
          have hi' : i = 0 ∨ i = 1 ∨ i = 2 ∨ i = 3 ∨ i = 4 ∨ i = 5 ∨ i = 6 ∨ i = 7 ∨ i = 8 ∨ i = 9 ∨ i = 10 ∨ i = 11 ∨ i = 12 ∨ i = 13 ∨ i = 14 ∨ i = 15 ∨ i = 16 ∨ i = 17 ∨ i = 18 ∨ i = 19 ∨ i = 20 := by omega
          clear hi
          rcases hi' with rfl | rfl | rfl | rfl | rfl | rfl | rfl | rfl | rfl | rfl | rfl | rfl | rfl | rfl | rfl | rfl | rfl | rfl | rfl | rfl | rfl
          · have q5 : a.tmps[5]?.getD undef = .pointer (some ⟨gd, 0, none⟩) := (hold 5 (by kernel_rfl)).trans (by kernel_rfl)
            have HS := Lib.hid hS
            clear hS hup hdn hold hv hLi
            refine Rgn.op_of rfl rfl ?_
            go_simp
            exact hK () _ (fun _ _ _ => rfl) HS.out
          · have q5 : a.tmps[5]?.getD undef = .pointer (some ⟨gd, 0, none⟩) := (hold 5 (by kernel_rfl)).trans (by kernel_rfl)
            have HS := Lib.hid hS
            clear hS hup hdn hold hv hLi
            refine Rgn.op_of rfl rfl ?_
            go_simp
            exact hK () _ (fun _ _ _ => rfl) HS.out
          · have q28 : a.tmps[28]?.getD undef = .pointer (some ⟨gd, 0, none⟩) := hv 1 28 (by kernel_rfl) (by kernel_rfl)
            have HS := Lib.hid hS
            clear hS hup hdn hold hv hLi
            refine Rgn.op_of rfl rfl ?_
            go_simp
            exact hK () _ (fun _ _ _ => rfl) HS.out
          · have q29 : a.tmps[29]?.getD undef = .pointer (some ⟨gd, 0, none⟩) := hv 2 29 (by kernel_rfl) (by kernel_rfl)
            have HS := Lib.hid hS
            clear hS hup hdn hold hv hLi
            refine Rgn.op_of rfl rfl ?_
            go_simp
            exact hK () _ (fun _ _ _ => rfl) HS.out
          · have q30 : a.tmps[30]?.getD undef = .pointer (some ⟨gd, 0, none⟩) := hv 3 30 (by kernel_rfl) (by kernel_rfl)
            have z17 : L 17 = false := hdn 17 rfl (by kernel_rfl)
            have h0 : Tq W1.drew W2 (W2.alloc (.cells #[PV gq] TPp)) w5 (w5.setCell ⟨gd, 0, none⟩ (.slice Aa (np + 1) ca)) (L 15) (L 16) (L 17) (L 20) wq := hS
            rw [z17] at h0
            have hc1 := tq_any (Pr := fun W => W.cell? ⟨gd, 0, none⟩ = some (.slice Ap np cp)) h0 hd0.out.1 hd1.out hd2.out
            clear h0 z17
            have HS := Lib.hid hS
            clear hS hup hdn hold hv hLi
            refine Rgn.op_of rfl rfl ?_
            go_simp
            exact hK () _ (fun _ _ _ => rfl) HS.out
          · have q0 : a.tmps[0]?.getD undef = .pointer (some ⟨g, 0, none⟩) := (hold 0 (by kernel_rfl)).trans (by kernel_rfl)
            have HS := Lib.hid hS
            clear hS hup hdn hold hv hLi
            refine Rgn.op_of rfl rfl ?_
            go_simp
            exact hK () _ (fun _ _ _ => rfl) HS.out
          · have q32 : a.tmps[32]?.getD undef = .pointer (some ⟨g, 0, none⟩) := hv 5 32 (by kernel_rfl) (by kernel_rfl)
            have HS := Lib.hid hS
            clear hS hup hdn hold hv hLi
            refine Rgn.op_of rfl rfl ?_
            go_simp
            exact hK () _ (fun _ _ _ => rfl) HS.out
          · have q33 : a.tmps[33]?.getD undef = .pointer (some ⟨g, 0, none⟩) := hv 6 33 (by kernel_rfl) (by kernel_rfl)
            have HS := Lib.hid hS
            clear hS hup hdn hold hv hLi
            refine Rgn.op_of rfl rfl ?_
            go_simp
            exact hK () _ (fun _ _ _ => rfl) HS.out
          · have q34 : a.tmps[34]?.getD undef = .pointer (some ⟨g, 0, none⟩) := hv 7 34 (by kernel_rfl) (by kernel_rfl)
            have z15 : L 15 = false := hdn 15 rfl (by kernel_rfl)
            have h0 : Tq W1.drew W2 (W2.alloc (.cells #[PV gq] TPp)) w5 (w5.setCell ⟨gd, 0, none⟩ (.slice Aa (np + 1) ca)) (L 15) (L 16) (L 17) (L 20) wq := hS
            rw [z15] at h0
            have hw : _ = wq := Eq.symm (show wq = _ from h0)
            subst hw
            obtain ⟨e0, e1, e2, e3⟩ := hd0.out
            have hc1 := e1
            clear e0 e1 e2 e3 z15
            have HS := Lib.hid hS
            clear hS hup hdn hold hv hLi
            refine Rgn.op_of rfl rfl ?_
            go_simp
            exact hK () _ (fun _ _ _ => rfl) HS.out
          · have q8 : a.tmps[8]?.getD undef = .pointer (some ⟨gf, 0, none⟩) := (hold 8 (by kernel_rfl)).trans (by kernel_rfl)
            have HS := Lib.hid hS
            clear hS hup hdn hold hv hLi
            refine Rgn.op_of rfl rfl ?_
            go_simp
            exact hK () _ (fun _ _ _ => rfl) HS.out
          · have q36 : a.tmps[36]?.getD undef = .pointer (some ⟨gf, 0, none⟩) := hv 9 36 (by kernel_rfl) (by kernel_rfl)
            have z15 : L 15 = false := hdn 15 rfl (by kernel_rfl)
            have h0 : Tq W1.drew W2 (W2.alloc (.cells #[PV gq] TPp)) w5 (w5.setCell ⟨gd, 0, none⟩ (.slice Aa (np + 1) ca)) (L 15) (L 16) (L 17) (L 20) wq := hS
            rw [z15] at h0
            have hw : _ = wq := Eq.symm (show wq = _ from h0)
            subst hw
            obtain ⟨e0, e1, e2, e3⟩ := hd0.out
            have hc1 := e2
            clear e0 e1 e2 e3 z15
            have HS := Lib.hid hS
            clear hS hup hdn hold hv hLi
            refine Rgn.op_of rfl rfl ?_
            go_simp
            exact hK () _ (fun _ _ _ => rfl) HS.out
          · have q35 : a.tmps[35]?.getD undef = .slice (some ⟨gs, os, none⟩) 6 cs := hv 8 35 (by kernel_rfl) (by kernel_rfl)
            have q37 : a.tmps[37]?.getD undef = .int .i64 kb := hv 10 37 (by kernel_rfl) (by kernel_rfl)
            have HS := Lib.hid hS
            clear hS hup hdn hold hv hLi
            refine Rgn.op_of rfl rfl ?_
            go_simp
            exact hK () _ (fun _ _ _ => rfl) HS.out
          · have q38 : a.tmps[38]?.getD undef = .pointer (some ⟨gs, os + kb, none⟩) := hv 11 38 (by kernel_rfl) (by kernel_rfl)
            have z15 : L 15 = false := hdn 15 rfl (by kernel_rfl)
            have h0 : Tq W1.drew W2 (W2.alloc (.cells #[PV gq] TPp)) w5 (w5.setCell ⟨gd, 0, none⟩ (.slice Aa (np + 1) ca)) (L 15) (L 16) (L 17) (L 20) wq := hS
            rw [z15] at h0
            have hw : _ = wq := Eq.symm (show wq = _ from h0)
            subst hw
            obtain ⟨e0, e1, e2, e3⟩ := hd0.out
            have hc1 := e3
            clear e0 e1 e2 e3 z15
            have HS := Lib.hid hS
            clear hS hup hdn hold hv hLi
            refine Rgn.op_of rfl rfl ?_
            go_simp
            exact hK () _ (fun _ _ _ => rfl) HS.out
          · have q8 : a.tmps[8]?.getD undef = .pointer (some ⟨gf, 0, none⟩) := (hold 8 (by kernel_rfl)).trans (by kernel_rfl)
            have HS := Lib.hid hS
            clear hS hup hdn hold hv hLi
            refine Rgn.op_of rfl rfl ?_
            go_simp
            exact hK () _ (fun _ _ _ => rfl) HS.out
          · have q40 : a.tmps[40]?.getD undef = .pointer (some ⟨gf, 0, none⟩) := hv 13 40 (by kernel_rfl) (by kernel_rfl)
            have z15 : L 15 = false := hdn 15 rfl (by kernel_rfl)
            have h0 : Tq W1.drew W2 (W2.alloc (.cells #[PV gq] TPp)) w5 (w5.setCell ⟨gd, 0, none⟩ (.slice Aa (np + 1) ca)) (L 15) (L 16) (L 17) (L 20) wq := hS
            rw [z15] at h0
            have hw : _ = wq := Eq.symm (show wq = _ from h0)
            subst hw
            obtain ⟨e0, e1, e2, e3⟩ := hd0.out
            have hc1 := e2
            clear e0 e1 e2 e3 z15
            have HS := Lib.hid hS
            clear hS hup hdn hold hv hLi
            refine Rgn.op_of rfl rfl ?_
            go_simp
            exact hK () _ (fun _ _ _ => rfl) HS.out
          · have q39 : a.tmps[39]?.getD undef = .int .i64 (cl kb : Int) := hv 12 39 (by kernel_rfl) (by kernel_rfl)
            have q41 : a.tmps[41]?.getD undef = .int .i64 kb := hv 14 41 (by kernel_rfl) (by kernel_rfl)
            have z15 : L 15 = false := hLi
            have z16 : L 16 = false := hdn 16 rfl (by kernel_rfl)
            have h0 : Tq W1.drew W2 (W2.alloc (.cells #[PV gq] TPp)) w5 (w5.setCell ⟨gd, 0, none⟩ (.slice Aa (np + 1) ca)) (L 15) (L 16) (L 17) (L 20) wq := hS
            rw [z15] at h0
            have hw : _ = wq := Eq.symm (show wq = _ from h0)
            subst hw
            have hc := HNEW.out
            have HS := Lib.hid hS
            clear hS hup hdn hold hv hLi
            refine Rgn.op_of rfl rfl ?_
            go_simp
            go_at_call 34
            (with_reducible refine hc.mono ?_)
            rintro e w9 ⟨rfl, hw9⟩
            have hw9 := hw9.symm
            subst hw9
            refine hK () _ (fun _ _ _ => rfl) ?_
            show Tq W1.drew W2 (W2.alloc (.cells #[PV gq] TPp)) w5 (w5.setCell ⟨gd, 0, none⟩ (.slice Aa (np + 1) ca)) (Rgn.mark L 15 15) (Rgn.mark L 15 16) (Rgn.mark L 15 17) (Rgn.mark L 15 20) _
            rw [Rgn.mark_self, Rgn.mark_ne (show 16 ≠ 15 by decide), z16]
            exact rfl
          · have q42 : a.tmps[42]?.getD undef = .pointer (some ⟨gq, 0, none⟩) := hv 15 42 (by kernel_rfl) (by kernel_rfl)
            have z15 : L 15 = true := hup 15 (by kernel_rfl)
            have z16 : L 16 = false := hLi
            have z17 : L 17 = false := hdn 17 rfl (by kernel_rfl)
            have h0 : Tq W1.drew W2 (W2.alloc (.cells #[PV gq] TPp)) w5 (w5.setCell ⟨gd, 0, none⟩ (.slice Aa (np + 1) ca)) (L 15) (L 16) (L 17) (L 20) wq := hS
            rw [z15, z16] at h0
            have hw : _ = wq := Eq.symm (show wq = _ from h0)
            subst hw
            have HS := Lib.hid hS
            clear hS hup hdn hold hv hLi
            refine Rgn.op_of rfl rfl ?_
            go_simp
            refine hK () _ (fun _ _ _ => rfl) ?_
            show Tq W1.drew W2 (W2.alloc (.cells #[PV gq] TPp)) w5 (w5.setCell ⟨gd, 0, none⟩ (.slice Aa (np + 1) ca)) (Rgn.mark L 16 15) (Rgn.mark L 16 16) (Rgn.mark L 16 17) (Rgn.mark L 16 20) _
            rw [Rgn.mark_ne (show 15 ≠ 16 by decide), Rgn.mark_self, Rgn.mark_ne (show 17 ≠ 16 by decide), z15, z17]
            exact rfl
          · have q31 : a.tmps[31]?.getD undef = .slice Ap np cp := hv 4 31 (by kernel_rfl) (by kernel_rfl)
            have q43 : a.tmps[43]?.getD undef = .slice (some ⟨W2.heap.size, 0, none⟩) 1 1 := hv 16 43 (by kernel_rfl) (by kernel_rfl)
            have z15 : L 15 = true := hup 15 (by kernel_rfl)
            have z16 : L 16 = true := hup 16 (by kernel_rfl)
            have z17 : L 17 = false := hLi
            have z20 : L 20 = false := hdn 20 rfl (by kernel_rfl)
            have h0 : Tq W1.drew W2 (W2.alloc (.cells #[PV gq] TPp)) w5 (w5.setCell ⟨gd, 0, none⟩ (.slice Aa (np + 1) ca)) (L 15) (L 16) (L 17) (L 20) wq := hS
            rw [z15, z16, z17] at h0
            have hw : _ = wq := Eq.symm (show wq = _ from h0)
            subst hw
            have HS := Lib.hid hS
            clear hS hup hdn hold hv hLi
            refine Rgn.op_of rfl rfl ?_
            refine oper_append_run (by rfl) _ _ _ (by rfl) _ _ _ _ ((Rgn.eval_tmp a 31).symm.trans q31) ((Rgn.eval_tmp a 43).symm.trans q43) HRUN.out ?_
            refine hK () _ (fun _ _ _ => rfl) ?_
            show Tq W1.drew W2 (W2.alloc (.cells #[PV gq] TPp)) w5 (w5.setCell ⟨gd, 0, none⟩ (.slice Aa (np + 1) ca)) (Rgn.mark L 17 15) (Rgn.mark L 17 16) (Rgn.mark L 17 17) (Rgn.mark L 17 20) _
            rw [Rgn.mark_ne (show 15 ≠ 17 by decide), Rgn.mark_ne (show 16 ≠ 17 by decide), Rgn.mark_self, Rgn.mark_ne (show 20 ≠ 17 by decide), z15, z16, z20]
            exact rfl
          · have q27 : a.tmps[27]?.getD undef = .pointer (some ⟨gd, 0, none⟩) := hv 0 27 (by kernel_rfl) (by kernel_rfl)
            have HS := Lib.hid hS
            clear hS hup hdn hold hv hLi
            refine Rgn.op_of rfl rfl ?_
            go_simp
            exact hK () _ (fun _ _ _ => rfl) HS.out
          · have q45 : a.tmps[45]?.getD undef = .pointer (some ⟨gd, 0, none⟩) := hv 18 45 (by kernel_rfl) (by kernel_rfl)
            have HS := Lib.hid hS
            clear hS hup hdn hold hv hLi
            refine Rgn.op_of rfl rfl ?_
            go_simp
            exact hK () _ (fun _ _ _ => rfl) HS.out
          · have q46 : a.tmps[46]?.getD undef = .pointer (some ⟨gd, 0, none⟩) := hv 19 46 (by kernel_rfl) (by kernel_rfl)
            have q44 : a.tmps[44]?.getD undef = .slice Aa (np + 1) ca := hv 17 44 (by kernel_rfl) (by kernel_rfl)
            have z15 : L 15 = true := hup 15 (by kernel_rfl)
            have z16 : L 16 = true := hup 16 (by kernel_rfl)
            have z17 : L 17 = true := hup 17 (by kernel_rfl)
            have z20 : L 20 = false := hLi
            have h0 : Tq W1.drew W2 (W2.alloc (.cells #[PV gq] TPp)) w5 (w5.setCell ⟨gd, 0, none⟩ (.slice Aa (np + 1) ca)) (L 15) (L 16) (L 17) (L 20) wq := hS
            rw [z15, z16, z17, z20] at h0
            have hw : _ = wq := Eq.symm (show wq = _ from h0)
            subst hw
            obtain ⟨e0, e1⟩ := hd3.out
            have HS := Lib.hid hS
            clear hS hup hdn hold hv hLi
            refine Rgn.op_of rfl rfl ?_
            go_simp
            refine hK () _ (fun _ _ _ => rfl) ?_
            show Tq W1.drew W2 (W2.alloc (.cells #[PV gq] TPp)) w5 (w5.setCell ⟨gd, 0, none⟩ (.slice Aa (np + 1) ca)) (Rgn.mark L 20 15) (Rgn.mark L 20 16) (Rgn.mark L 20 17) (Rgn.mark L 20 20) _
            rw [Rgn.mark_ne (show 15 ≠ 20 by decide), Rgn.mark_ne (show 16 ≠ 20 by decide), Rgn.mark_ne (show 17 ≠ 20 by decide), Rgn.mark_self, z15, z16, z17]
            exact rfl
        · intro gh L wq hall hS
          have h0 : Tq W1.drew W2 (W2.alloc (.cells #[PV gq] TPp)) w5 (w5.setCell ⟨gd, 0, none⟩ (.slice Aa (np + 1) ca)) (L 15) (L 16) (L 17) (L 20) wq := hS
          rw [hall 15 rfl, hall 16 rfl, hall 17 rfl, hall 20 rfl] at h0
          have hw : _ = wq := Eq.symm (show wq = _ from h0)
          subst hw
          clear hS hall hd0 hd1 hd2 hd3 HRUN HNEW
          simp only [Rgn.putAll, Act.put]
          go_simp
          go_at_K
          go_wp2_with fail
          go_roundw
          case rel => exact ⟨i + 1, np + 1, nk, ca, ck, Aa, Ak, _, ks, by omega, by go_num, rfl, by omega, by omega, HP2, HK2, HKN, LF⟩
          case measure => (first | (simp [intOf]; omega) | simp [intOf])
      · have HT := Lib.hid (tk_no hp hz)
        have hzI : z < kv := by omega
        obtain ⟨Aa, ca, w5, hrun, hL⟩ := Lo.pushF L1.out 6 rfl (by omega) kb kv
        have LN : Hid (Lo w0 lo hi b rb hq A B (X ++ [bx g TLb #[.slice As 6 cs, .slice (some ⟨gw, 0, none⟩) n cw], rd .i64 (.slice As 6 cs) clsl, rv TFr 2 (.slice (some ⟨gw, 0, none⟩) n cw) n (fcs ws), bx gd TDr #[.slice Ap np cp], rv TPp 1 (.slice Ap np cp) np (ptrs ps), bxs ps, rv TFr 2 (.slice Aa (nk + 1) ca) (nk + 1) (fcs (ks ++ [(kb, kv)]))]) w5) := Lib.hid (Lo.dropR (rs2 := [bx gf TFr #[.int .i64 kb, .int .i64 kv]]) hL)
        clear hL L1
        have HK2 : Hid (ks ++ [(kb, kv)] = kp z (ws.take (i + 1))) := Lib.hid (by rw [HT.out.2, HK.out])
        have HKN2 : Hid ((ks ++ [(kb, kv)]).length = nk + 1) := Lib.hid (by rw [List.length_append, HKN.out]; rfl)
        have HP2 : Hid (ps.length = np ∧ ps.map Prod.snd = (tk z (ws.take (i + 1))).map Prod.fst) := Lib.hid ⟨HP.out.1, by rw [HT.out.1]; exact HP.out.2⟩
        clear HP HK HKN HT
        go_wp2_with (at_builtin; refine wpList_append_run rfl _ _ _ rfl hrun (by rfl) (by rfl) ?_; clear hrun)
        go_roundw
        case rel => exact ⟨i + 1, np, nk + 1, cp, ca, Ap, Aa, ps, _, by omega, by go_num, rfl, by omega, by omega, HP2, HK2, HKN2, LN⟩
        case measure => (first | (simp [intOf]; omega) | simp [intOf])
    · obtain rfl : i = n := by omega
      have HTK : Hid (ws.take i = ws) := Lib.hid (List.take_of_length_le (by omega))
      clear hlt
      have c0_0_1 : wr.cell? ⟨g, 1, none⟩ = some (.slice Aw i cw) := L0.out.cR 0 1 rfl rfl
      have z0_0_1 : wr.frozen? ⟨g, 1, none⟩ = false := L0.out.zR 0 1 rfl
      have LZ : Hid (Lo w0 lo hi b rb hq A B (X ++ [bx g TLb #[.slice As 6 cs, .slice Ak nk ck], rd .i64 (.slice As 6 cs) clsl, rv TFr 2 (.slice Aw i cw) i (fcs ws), bx gd TDr #[.slice Ap np cp], rv TPp 1 (.slice Ap np cp) np (ptrs ps), bxs ps, rv TFr 2 (.slice Ak nk ck) nk (fcs ks)]) ((wr.setCell ⟨g, 1, none⟩ (.slice Ak nk ck)))) := Lib.hid (L0.out.putR 0 1 (.slice Ak nk ck) rfl (by rfl))
      go_wp2_with fail
      go_ret
      refine ⟨gd, Ap, np, cp, ps, Ak, nk, ck, ks, rfl, by rw [HP.out.2, HTK.out], HP.out.1, by rw [HK.out, HTK.out], HKN.out, ?_⟩
      have h1 := Lo.sub (LZ.out.perm (List.Perm.append_left X (fin_perm _ _ _ _ _ _ _))) (fin_sub X _ _ _ _ _ _ _)
      have h2 := Lo.seeR (rs := [_, _, _, _, _, _]) (o' := rdv (.slice Ap np cp) (ptrs ps)) h1 4 rfl (rdv_own (h1.isR 4 rfl)) (fun _ h => h)
      exact h2
end Go.Proofs.Ytpjbmbipkmpkhaa.LmB
