/-
  Contracts of the reference's limbo and drain.
-/
import Derived.Test.YtpjbmbipkmpkhaaLmE
import Derived.Deep.RegionLaw
import Derived.Deep.RegionHeld3
import Derived.Deep.Cut
import Derived.Deep.DeepCutAuto
import Derived.Deep.CutBlock
import Derived.BigQuiet
import Derived.Deep.QuietTactic
namespace Go.Proofs.Ytpjbmbipkmpkhaa.LmC
open Go.ChangeShapes Go.WideShapes Go.ChangeAt Go.RowKit
open PlainT BlkW LayS LayA LayF LayH LayK CelS CelM CelP CelV CelN CelO CelF LabD LabR LabP LabS LabX LabN CelLo RsA ObjA ClnA FreP FreA FreB LmP LmA LmD
set_option linter.unusedVariables false
set_option maxHeartbeats 2000000
set_option maxRecDepth 100000


theorem ql_new {w0 w : World} {lo hi b rb : Nat} {A B : Int → List Int} {X : List Ob}  (h : Lo w0 lo hi b rb hq A B (X ++ []) w) : Calls Try.prog 51 #[.agg #[.int .i64 20, .int .i64 4, .int .i64 1, .int .i64 3, .int .i64 2, .int .i64 1, .int .i64 0, .int .i64 1, .int .i64 1, .int .i64 0, .int .i64 0, .int .i64 0, .bool false]] w fun e w' => ∃ y, e = .returned (.pointer (some ⟨y, 0, none⟩)) ∧ Lo w0 lo hi b rb hq A B (X ++ [bx y TRl #[.int .i64 20, .int .i64 4, .int .i64 1, .int .i64 3, .int .i64 2, .int .i64 1, .int .i64 0, .int .i64 1, .int .i64 1, .int .i64 0, .int .i64 0, .int .i64 0, .bool false, .slice none 0 0, .slice none 0 0], rv TI 1 (.slice none 0 0) 0 (is (bsI [])), rv TI 1 (.slice none 0 0) 0 (is (vsI []))]) w' := by
  have L0 := Lib.hid h
  clear h
  go_enter Try.func51, Try.ntmps51
  go_upto_region 1 with (fail)
  have L1 := Lib.hid (L0.out.newR TC #[.int .i64 20, .int .i64 4, .int .i64 1, .int .i64 3, .int .i64 2, .int .i64 1, .int .i64 0, .int .i64 1, .int .i64 1, .int .i64 0, .int .i64 0, .int .i64 0, .bool false])
  obtain ⟨gc, hn⟩ : ∃ gc, w.heap.size = gc := ⟨_, rfl⟩
  rw [hn] at L1
  first | rw [hn] | skip
  clear hn
  obtain ⟨W1, hW⟩ : ∃ W', w.alloc (.cells #[.int .i64 20, .int .i64 4, .int .i64 1, .int .i64 3, .int .i64 2, .int .i64 1, .int .i64 0, .int .i64 1, .int .i64 1, .int .i64 0, .int .i64 0, .int .i64 0, .bool false] TC) = W' := ⟨_, rfl⟩
  rw [hW] at L1
  first | rw [hW] | skip
  clear hW
  have L1 : Hid (Lo w0 lo hi b rb hq A B (X ++ [bx gc TC #[.int .i64 20, .int .i64 4, .int .i64 1, .int .i64 3, .int .i64 2, .int .i64 1, .int .i64 0, .int .i64 1, .int .i64 1, .int .i64 0, .int .i64 0, .int .i64 0, .bool false]]) W1) := L1
  clear L0
  have c1_0_0 : W1.cell? ⟨gc, 0, none⟩ = some (.int .i64 20) := L1.out.cR 0 0 rfl rfl
  have c1_0_1 : W1.cell? ⟨gc, 1, none⟩ = some (.int .i64 4) := L1.out.cR 0 1 rfl rfl
  have c1_0_2 : W1.cell? ⟨gc, 2, none⟩ = some (.int .i64 1) := L1.out.cR 0 2 rfl rfl
  have c1_0_3 : W1.cell? ⟨gc, 3, none⟩ = some (.int .i64 3) := L1.out.cR 0 3 rfl rfl
  have c1_0_4 : W1.cell? ⟨gc, 4, none⟩ = some (.int .i64 2) := L1.out.cR 0 4 rfl rfl
  have c1_0_5 : W1.cell? ⟨gc, 5, none⟩ = some (.int .i64 1) := L1.out.cR 0 5 rfl rfl
  have c1_0_6 : W1.cell? ⟨gc, 6, none⟩ = some (.int .i64 0) := L1.out.cR 0 6 rfl rfl
  have c1_0_7 : W1.cell? ⟨gc, 7, none⟩ = some (.int .i64 1) := L1.out.cR 0 7 rfl rfl
  have c1_0_8 : W1.cell? ⟨gc, 8, none⟩ = some (.int .i64 1) := L1.out.cR 0 8 rfl rfl
  have c1_0_9 : W1.cell? ⟨gc, 9, none⟩ = some (.int .i64 0) := L1.out.cR 0 9 rfl rfl
  have c1_0_10 : W1.cell? ⟨gc, 10, none⟩ = some (.int .i64 0) := L1.out.cR 0 10 rfl rfl
  have c1_0_11 : W1.cell? ⟨gc, 11, none⟩ = some (.int .i64 0) := L1.out.cR 0 11 rfl rfl
  have c1_0_12 : W1.cell? ⟨gc, 12, none⟩ = some (.bool false) := L1.out.cR 0 12 rfl rfl
  have LA := Lib.hid (L1.out.newR TRl #[.int .i64 20, .int .i64 4, .int .i64 1, .int .i64 3, .int .i64 2, .int .i64 1, .int .i64 0, .int .i64 1, .int .i64 1, .int .i64 0, .int .i64 0, .int .i64 0, .bool false, .slice none 0 0, .slice none 0 0])
  have LB := Lib.hid (Lo.sub LA.out ((List.sublist_cons_self _ _).append_left X))
  have LC := Lib.hid (Lo.nilVR (Lo.nilVR LB.out TI 1) TI 1)
  clear LA LB
  go_wp2
  go_ret
  exact ⟨_, rfl, LC.out⟩

theorem bsI_push (ws : WL) (b : Nat) (v : Int) : bsI (ws ++ [(b, v)]) = bsI ws ++ [(b : Int)] := by simp [bsI]
theorem vsI_push (ws : WL) (b : Nat) (v : Int) : vsI (ws ++ [(b, v)]) = vsI ws ++ [v] := by simp [vsI]
theorem cls_yes {k : Nat} (h : k < 6) : 0 ≤ clsV hq k := by rw [cl_of h]; omega
theorem cls_no {x : Int} (h : ¬ (0 ≤ x ∧ x < 6)) : clsV hq x = -1 := by
  unfold clsV
  rw [if_neg]
  intro h2
  exact h ⟨h2.1, by have := h2.2; have e : blkV hq = 6 := by decide
                    omega⟩

theorem ql_add {w0 w : World} {lo hi b rb : Nat} {A B : Int → List Int} {X : List Ob} {y n m cb cv cx : Nat} {Ab Av p : Option Addr} {ws : WL} {xs : List Int} {v : Int} (hwn : ws.length = n) (hn : n + m ≤ 1000) (hx : Rdb X (.slice p m cx) xs) (h : Lo w0 lo hi b rb hq A B (X ++ [bx y TRl #[.int .i64 20, .int .i64 4, .int .i64 1, .int .i64 3, .int .i64 2, .int .i64 1, .int .i64 0, .int .i64 1, .int .i64 1, .int .i64 0, .int .i64 0, .int .i64 0, .bool false, .slice Ab n cb, .slice Av n cv], rv TI 1 (.slice Ab n cb) n (is (bsI ws)), rv TI 1 (.slice Av n cv) n (is (vsI ws))]) w) : Calls Try.prog 54 #[.pointer (some ⟨y, 0, none⟩), .int .i64 v, .slice p m cx] w fun e w' => e = .returned (.tuple #[]) ∧ ∃ Ak Al ck cl0 nk ks, ks = ws ++ adds v xs ∧ ks.length = nk ∧ Lo w0 lo hi b rb hq A B (X ++ [bx y TRl #[.int .i64 20, .int .i64 4, .int .i64 1, .int .i64 3, .int .i64 2, .int .i64 1, .int .i64 0, .int .i64 1, .int .i64 1, .int .i64 0, .int .i64 0, .int .i64 0, .bool false, .slice Ak nk ck, .slice Al nk cl0], rv TI 1 (.slice Ak nk ck) nk (is (bsI ks)), rv TI 1 (.slice Al nk cl0) nk (is (vsI ks))]) w' := by
  have L0 := Lib.hid h
  clear h
  have HX := Lib.hid hx
  clear hx
  go_enter Try.func54, Try.ntmps54
  go_wp2_with fail
  go_loopw [6] (fun iv wr => ∃ (i : Nat) (Ak Al : Option Addr) (ck cl0 nk : Nat) (ks : WL), i ≤ m ∧ iv = .int .i64 i ∧ nk ≤ n + i ∧ Hid (ks = ws ++ adds v (xs.take i)) ∧ Hid (ks.length = nk) ∧ Hid (Lo w0 lo hi b rb hq A B (X ++ [bx y TRl #[.int .i64 20, .int .i64 4, .int .i64 1, .int .i64 3, .int .i64 2, .int .i64 1, .int .i64 0, .int .i64 1, .int .i64 1, .int .i64 0, .int .i64 0, .int .i64 0, .bool false, .slice Ak nk ck, .slice Al nk cl0], rv TI 1 (.slice Ak nk ck) nk (is (bsI ks)), rv TI 1 (.slice Al nk cl0) nk (is (vsI ks))]) wr)) (fun iv _ => m - (intOf iv).toNat)
  case atStart => exact ⟨0, Ab, Av, cb, cv, n, ws, by omega, rfl, by omega, Lib.hid (by simp [adds]), Lib.hid hwn, L0⟩
  case round =>
    clear L0
    obtain ⟨i, Ak, Al, ck, cl0, nk, ks, him, rfl, hnk, HK, HKN, L0⟩ := hrel
    by_cases hlt : i < m
    · have hltI : (i : Int) < m := by omega
      obtain ⟨hxm, hxp⟩ := HX.out.some L0.out
      obtain ⟨gx, ox, rfl⟩ := hxp (by omega)
      have hxi : xs[i]? = some (xs[i]'(by omega)) := List.getElem?_eq_getElem _
      obtain ⟨x, hxe⟩ : ∃ x, xs[i]'(by omega) = x := ⟨_, rfl⟩
      rw [hxe] at hxi
      clear hxe hxp
      have hall : ∀ W, Lo w0 lo hi b rb hq A B (X ++ [bx y TRl #[.int .i64 20, .int .i64 4, .int .i64 1, .int .i64 3, .int .i64 2, .int .i64 1, .int .i64 0, .int .i64 1, .int .i64 1, .int .i64 0, .int .i64 0, .int .i64 0, .bool false, .slice Ak nk ck, .slice Al nk cl0], rv TI 1 (.slice Ak nk ck) nk (is (bsI ks)), rv TI 1 (.slice Al nk cl0) nk (is (vsI ks))]) W → (fun W : World => W.cell? ⟨y, 0, none⟩ = some (.int .i64 20) ∧ W.cell? ⟨y, 1, none⟩ = some (.int .i64 4) ∧ W.cell? ⟨y, 2, none⟩ = some (.int .i64 1) ∧ W.cell? ⟨y, 3, none⟩ = some (.int .i64 3) ∧ W.cell? ⟨y, 4, none⟩ = some (.int .i64 2) ∧ W.cell? ⟨y, 5, none⟩ = some (.int .i64 1) ∧ W.cell? ⟨y, 6, none⟩ = some (.int .i64 0) ∧ W.cell? ⟨y, 7, none⟩ = some (.int .i64 1) ∧ W.cell? ⟨y, 8, none⟩ = some (.int .i64 1) ∧ W.cell? ⟨y, 9, none⟩ = some (.int .i64 0) ∧ W.cell? ⟨y, 10, none⟩ = some (.int .i64 0) ∧ W.cell? ⟨y, 11, none⟩ = some (.int .i64 0) ∧ W.cell? ⟨y, 12, none⟩ = some (.bool false) ∧ W.cell? ⟨gx, ox + i, none⟩ = some (.int .i64 x)) W := fun W h => ⟨h.cR 0 0 rfl rfl, h.cR 0 1 rfl rfl, h.cR 0 2 rfl rfl, h.cR 0 3 rfl rfl, h.cR 0 4 rfl rfl, h.cR 0 5 rfl rfl, h.cR 0 6 rfl rfl, h.cR 0 7 rfl rfl, h.cR 0 8 rfl rfl, h.cR 0 9 rfl rfl, h.cR 0 10 rfl rfl, h.cR 0 11 rfl rfl, h.cR 0 12 rfl rfl, HX.out.cell h hxi⟩
      have hs0 : (fun W : World => W.cell? ⟨y, 0, none⟩ = some (.int .i64 20) ∧ W.cell? ⟨y, 1, none⟩ = some (.int .i64 4) ∧ W.cell? ⟨y, 2, none⟩ = some (.int .i64 1) ∧ W.cell? ⟨y, 3, none⟩ = some (.int .i64 3) ∧ W.cell? ⟨y, 4, none⟩ = some (.int .i64 2) ∧ W.cell? ⟨y, 5, none⟩ = some (.int .i64 1) ∧ W.cell? ⟨y, 6, none⟩ = some (.int .i64 0) ∧ W.cell? ⟨y, 7, none⟩ = some (.int .i64 1) ∧ W.cell? ⟨y, 8, none⟩ = some (.int .i64 1) ∧ W.cell? ⟨y, 9, none⟩ = some (.int .i64 0) ∧ W.cell? ⟨y, 10, none⟩ = some (.int .i64 0) ∧ W.cell? ⟨y, 11, none⟩ = some (.int .i64 0) ∧ W.cell? ⟨y, 12, none⟩ = some (.bool false) ∧ W.cell? ⟨gx, ox + i, none⟩ = some (.int .i64 x)) wr.drew := hall _ L0.out.drew
      by_cases h06 : 0 ≤ x ∧ x < 6
      · obtain ⟨k, hk⟩ : ∃ k : Nat, x = (k : Int) := ⟨x.toNat, by omega⟩
        subst hk
        have hk6 : k < 6 := by omega
        have hz := cls_yes hk6
        obtain ⟨z0, hz0⟩ : ∃ z0, clsV hq (k : Int) = z0 := ⟨_, rfl⟩
        rw [hz0] at hz
        have HK2 : Hid (ks ++ [(k, v)] = ws ++ adds v (xs.take (i + 1))) := Lib.hid (by rw [adds_yes hxi h06, HK.out, List.append_assoc]; rfl)
        have HKN2 : Hid ((ks ++ [(k, v)]).length = nk + 1) := Lib.hid (by rw [List.length_append, HKN.out]; rfl)
        clear HK HKN
        have hcl : Calls Try.prog 33 #[.agg #[.int .i64 20, .int .i64 4, .int .i64 1, .int .i64 3, .int .i64 2, .int .i64 1, .int .i64 0, .int .i64 1, .int .i64 1, .int .i64 0, .int .i64 0, .int .i64 0, .bool false], .int .i64 (k : Int)] wr.drew fun e w' => e = .returned (.int .i64 z0) ∧ Below wr.drew.heap.size wr.drew w' := by rw [← hz0]; exact r_class hq k wr.drew
        go_upto_region 3 with (fail)
        go_region_held3 (fun W : World => W.cell? ⟨y, 0, none⟩ = some (.int .i64 20) ∧ W.cell? ⟨y, 1, none⟩ = some (.int .i64 4) ∧ W.cell? ⟨y, 2, none⟩ = some (.int .i64 1) ∧ W.cell? ⟨y, 3, none⟩ = some (.int .i64 3) ∧ W.cell? ⟨y, 4, none⟩ = some (.int .i64 2) ∧ W.cell? ⟨y, 5, none⟩ = some (.int .i64 1) ∧ W.cell? ⟨y, 6, none⟩ = some (.int .i64 0) ∧ W.cell? ⟨y, 7, none⟩ = some (.int .i64 1) ∧ W.cell? ⟨y, 8, none⟩ = some (.int .i64 1) ∧ W.cell? ⟨y, 9, none⟩ = some (.int .i64 0) ∧ W.cell? ⟨y, 10, none⟩ = some (.int .i64 0) ∧ W.cell? ⟨y, 11, none⟩ = some (.int .i64 0) ∧ W.cell? ⟨y, 12, none⟩ = some (.bool false) ∧ W.cell? ⟨gx, ox + i, none⟩ = some (.int .i64 (k : Int))) (first | (with_reducible exact hs0) | (with_reducible assumption)) (first | (go_at_call 33; (with_reducible refine hcl.mono ?_); rintro e w2 ⟨rfl, hb⟩; have hs1 := hall _ (L0.out.drew.below hb)))
        have L1 : Hid (Lo w0 lo hi b rb hq A B (X ++ [bx y TRl #[.int .i64 20, .int .i64 4, .int .i64 1, .int .i64 3, .int .i64 2, .int .i64 1, .int .i64 0, .int .i64 1, .int .i64 1, .int .i64 0, .int .i64 0, .int .i64 0, .bool false, .slice Ak nk ck, .slice Al nk cl0], rv TI 1 (.slice Ak nk ck) nk (is (bsI ks)), rv TI 1 (.slice Al nk cl0) nk (is (vsI ks))]) w2) := Lib.hid (L0.out.drew.below hb)
        clear L0 hb hs0 hcl hall hs1
        go_upto_region 4 with (fail)
        go_cut [] (fun wc => ∃ (Aa : Option Addr) (ca : Nat), Hid (Lo w0 lo hi b rb hq A B (X ++ [bx y TRl #[.int .i64 20, .int .i64 4, .int .i64 1, .int .i64 3, .int .i64 2, .int .i64 1, .int .i64 0, .int .i64 1, .int .i64 1, .int .i64 0, .int .i64 0, .int .i64 0, .bool false, .slice Aa (nk + 1) ca, .slice Al nk cl0], rv TI 1 (.slice Aa (nk + 1) ca) (nk + 1) (is (bsI ks ++ [(k : Int)])), rv TI 1 (.slice Al nk cl0) nk (is (vsI ks))]) wc))
        case first =>
          obtain ⟨Aa, ca, w5, hrun, hL⟩ := Lo.pushI L1.out.drew 1 rfl (by omega) (k : Int)
          have hrun' : (Builtin.append_ #[47, 47] 47 #[.slice Ak nk ck, .slice (some ⟨w2.heap.size, 0, none⟩) 1 1]).run Try.prog (w2.alloc (.cells #[.int .i64 k] TI)).drew = .ok (.slice Aa (nk + 1) ca) w5 := hrun
          have c1_0_13 : w2.cell? ⟨y, 13, none⟩ = some (.slice Ak nk ck) := L1.out.cR 0 13 rfl rfl
          have r0 : w2.cell? ⟨gx, ox + i, none⟩ = some (.int .i64 k) := HX.out.cell L1.out hxi
          have hyb : y < w2.heap.size := (L1.out.memR 0 rfl).lt
          have hxb : gx < w2.heap.size := World.block_lt_of_cell? _ _ r0
          have m1 : w5.cell? ⟨y, 13, none⟩ = some (.slice Ak nk ck) := hL.cR 0 13 rfl rfl
          have m2 : w5.frozen? ⟨y, 13, none⟩ = false := hL.zR 0 13 rfl
          have HL : Hid (Lo w0 lo hi b rb hq A B (X ++ [bx y TRl #[.int .i64 20, .int .i64 4, .int .i64 1, .int .i64 3, .int .i64 2, .int .i64 1, .int .i64 0, .int .i64 1, .int .i64 1, .int .i64 0, .int .i64 0, .int .i64 0, .bool false, .slice Aa (nk + 1) ca, .slice Al nk cl0], rv TI 1 (.slice Aa (nk + 1) ca) (nk + 1) (is (bsI ks ++ [(k : Int)])), rv TI 1 (.slice Al nk cl0) nk (is (vsI ks))]) ((w5.setCell ⟨y, 13, none⟩ (.slice Aa (nk + 1) ca)))) := Lib.hid (hL.putR 0 13 (.slice Aa (nk + 1) ca) rfl (by rfl))
          clear hrun hL L1
          go_region_law ((refine step_append_run rfl _ _ _ rfl _ _ _ _ rfl rfl hrun' ?_))
          all_goals go_wp2_with fail
          all_goals go_meet
          all_goals exact ⟨_, _, HL⟩
        case rest =>
          clear L1
          obtain ⟨Aa, ca, L2⟩ := hcut
          obtain ⟨Ac, cc, w6, hrun, hL⟩ := Lo.pushI L2.out 2 rfl (by omega) v
          have c2_0_14 : wc.cell? ⟨y, 14, none⟩ = some (.slice Al nk cl0) := L2.out.cR 0 14 rfl rfl
          have m1 := hL.cR 0 14 rfl rfl
          have m2 := hL.zR 0 14 rfl
          have LN : Hid (Lo w0 lo hi b rb hq A B (X ++ [bx y TRl #[.int .i64 20, .int .i64 4, .int .i64 1, .int .i64 3, .int .i64 2, .int .i64 1, .int .i64 0, .int .i64 1, .int .i64 1, .int .i64 0, .int .i64 0, .int .i64 0, .bool false, .slice Aa (nk + 1) ca, .slice Ac (nk + 1) cc], rv TI 1 (.slice Aa (nk + 1) ca) (nk + 1) (is (bsI ks ++ [(k : Int)])), rv TI 1 (.slice Ac (nk + 1) cc) (nk + 1) (is (vsI ks ++ [v]))]) ((w6.setCell ⟨y, 14, none⟩ (.slice Ac (nk + 1) cc)))) := Lib.hid (hL.putR 0 14 (.slice Ac (nk + 1) cc) rfl (by rfl))
          clear hL L2
          go_wp2_with (at_builtin; refine wpList_append_run rfl _ _ _ rfl hrun (by rfl) (by rfl) ?_; clear hrun)
          go_roundw
          case rel => exact ⟨i + 1, Aa, Ac, ca, cc, nk + 1, _, by omega, by go_num, by omega, HK2, HKN2, Lib.hid (by rw [bsI_push, vsI_push]; exact LN.out)⟩
          case measure => (first | (simp [intOf]; omega) | simp [intOf])
      · have hz0 := cls_no h06
        obtain ⟨z0, hz1⟩ : ∃ z0, (-1 : Int) = z0 := ⟨_, rfl⟩
        rw [hz1] at hz0
        have hz : z0 < 0 := by omega
        clear hz1
        have HK2 : Hid (ks = ws ++ adds v (xs.take (i + 1))) := Lib.hid (by rw [adds_no hxi h06]; exact HK.out)
        have hcl : Calls Try.prog 33 #[.agg #[.int .i64 20, .int .i64 4, .int .i64 1, .int .i64 3, .int .i64 2, .int .i64 1, .int .i64 0, .int .i64 1, .int .i64 1, .int .i64 0, .int .i64 0, .int .i64 0, .bool false], .int .i64 x] wr.drew fun e w' => e = .returned (.int .i64 z0) ∧ Below wr.drew.heap.size wr.drew w' := by rw [← hz0]; exact r_class hq x wr.drew
        go_upto_region 3 with (fail)
        go_region_held3 (fun W : World => W.cell? ⟨y, 0, none⟩ = some (.int .i64 20) ∧ W.cell? ⟨y, 1, none⟩ = some (.int .i64 4) ∧ W.cell? ⟨y, 2, none⟩ = some (.int .i64 1) ∧ W.cell? ⟨y, 3, none⟩ = some (.int .i64 3) ∧ W.cell? ⟨y, 4, none⟩ = some (.int .i64 2) ∧ W.cell? ⟨y, 5, none⟩ = some (.int .i64 1) ∧ W.cell? ⟨y, 6, none⟩ = some (.int .i64 0) ∧ W.cell? ⟨y, 7, none⟩ = some (.int .i64 1) ∧ W.cell? ⟨y, 8, none⟩ = some (.int .i64 1) ∧ W.cell? ⟨y, 9, none⟩ = some (.int .i64 0) ∧ W.cell? ⟨y, 10, none⟩ = some (.int .i64 0) ∧ W.cell? ⟨y, 11, none⟩ = some (.int .i64 0) ∧ W.cell? ⟨y, 12, none⟩ = some (.bool false) ∧ W.cell? ⟨gx, ox + i, none⟩ = some (.int .i64 x)) (first | (with_reducible exact hs0) | (with_reducible assumption)) (first | (go_at_call 33; (with_reducible refine hcl.mono ?_); rintro e w2 ⟨rfl, hb⟩; have hs1 := hall _ (L0.out.drew.below hb)))
        have L1 : Hid (Lo w0 lo hi b rb hq A B (X ++ [bx y TRl #[.int .i64 20, .int .i64 4, .int .i64 1, .int .i64 3, .int .i64 2, .int .i64 1, .int .i64 0, .int .i64 1, .int .i64 1, .int .i64 0, .int .i64 0, .int .i64 0, .bool false, .slice Ak nk ck, .slice Al nk cl0], rv TI 1 (.slice Ak nk ck) nk (is (bsI ks)), rv TI 1 (.slice Al nk cl0) nk (is (vsI ks))]) w2) := Lib.hid (L0.out.drew.below hb)
        clear L0 hb hs0 hcl hall hs1
        go_wp2_with fail
        go_roundw
        case rel => exact ⟨i + 1, Ak, Al, ck, cl0, nk, ks, by omega, by go_num, by omega, HK2, HKN, L1⟩
        case measure => (first | (simp [intOf]; omega) | simp [intOf])
    · obtain rfl : i = m := by omega
      have HK2 : Hid (ks = ws ++ adds v xs) := Lib.hid (by rw [HK.out, List.take_of_length_le (by have := (HX.out.some L0.out).1; omega)])
      clear hlt HK
      go_wp2_with fail
      refine bodyPost_end (results_none (by rfl) _ _ _) rfl ?_
      exact ⟨rfl, Ak, Al, ck, cl0, nk, ks, HK2.out, HKN.out, L0.out⟩

theorem tkf_perm (a b c d e f : Ob) : [a, b, c, d, e, f].Perm [b, c, a, e, f, d] :=
  (((List.perm_append_comm (l₁ := [a]) (l₂ := [b, c])).append_right [d, e, f]).trans ((List.perm_append_comm (l₁ := [d]) (l₂ := [e, f])).append_left [b, c, a]))
theorem tkf_sub (X : List Ob) (a b c d e f : Ob) : (X ++ [a, e, f, d]).Sublist (X ++ [b, c, a, e, f, d]) := ((List.sublist_cons_self _ _).trans (List.sublist_cons_self _ _)).append_left X

theorem ql_take {w0 w : World} {lo hi b rb : Nat} {A B : Int → List Int} {X : List Ob} {y n cb cv : Nat} {Ab Av : Option Addr} {ws : WL} {z : Int} (hwn : ws.length = n) (hn : n ≤ 1000) (h : Lo w0 lo hi b rb hq A B (X ++ [bx y TRl #[.int .i64 20, .int .i64 4, .int .i64 1, .int .i64 3, .int .i64 2, .int .i64 1, .int .i64 0, .int .i64 1, .int .i64 1, .int .i64 0, .int .i64 0, .int .i64 0, .bool false, .slice Ab n cb, .slice Av n cv], rv TI 1 (.slice Ab n cb) n (is (bsI ws)), rv TI 1 (.slice Av n cv) n (is (vsI ws))]) w) : Calls Try.prog 57 #[.pointer (some ⟨y, 0, none⟩), .int .i64 z] w fun e w' => ∃ Ao no co ts Ak Al ck cl0 nk ks, e = .returned (.slice Ao no co) ∧ ts = tk z ws ∧ ts.length = no ∧ ks = kp z ws ∧ ks.length = nk ∧ Lo w0 lo hi b rb hq A B (X ++ [bx y TRl #[.int .i64 20, .int .i64 4, .int .i64 1, .int .i64 3, .int .i64 2, .int .i64 1, .int .i64 0, .int .i64 1, .int .i64 1, .int .i64 0, .int .i64 0, .int .i64 0, .bool false, .slice Ak nk ck, .slice Al nk cl0], rv TI 1 (.slice Ak nk ck) nk (is (bsI ks)), rv TI 1 (.slice Al nk cl0) nk (is (vsI ks)), rv TI 1 (.slice Ao no co) no (is (bsI ts))]) w' := by
  have L0 := Lib.hid h
  clear h
  go_enter Try.func57, Try.ntmps57
  go_wp2_with fail
  have L1 : Hid (Lo w0 lo hi b rb hq A B (X ++ [bx y TRl #[.int .i64 20, .int .i64 4, .int .i64 1, .int .i64 3, .int .i64 2, .int .i64 1, .int .i64 0, .int .i64 1, .int .i64 1, .int .i64 0, .int .i64 0, .int .i64 0, .bool false, .slice Ab n cb, .slice Av n cv], rv TI 1 (.slice Ab n cb) n (is (bsI ws)), rv TI 1 (.slice Av n cv) n (is (vsI ws)), rv TI 1 (.slice none 0 0) 0 (is (bsI [])), rv TI 1 (.slice none 0 0) 0 (is (bsI [])), rv TI 1 (.slice none 0 0) 0 (is (vsI []))]) w) := Lib.hid (Lo.nilVR (Lo.nilVR (Lo.nilVR L0.out TI 1) TI 1) TI 1)
  clear L0
  go_loopw [5, 6, 7, 8] (fun ov kv lv iv wr => ∃ (i no nk co ck cl0 : Nat) (Ao Ak Al : Option Addr) (ts ks : WL), i ≤ n ∧ iv = .int .i64 i ∧ ov = .slice Ao no co ∧ kv = .slice Ak nk ck ∧ lv = .slice Al nk cl0 ∧ no ≤ i ∧ nk ≤ i ∧ Hid (ts = tk z (ws.take i)) ∧ Hid (ts.length = no) ∧ Hid (ks = kp z (ws.take i)) ∧ Hid (ks.length = nk) ∧ Hid (Lo w0 lo hi b rb hq A B (X ++ [bx y TRl #[.int .i64 20, .int .i64 4, .int .i64 1, .int .i64 3, .int .i64 2, .int .i64 1, .int .i64 0, .int .i64 1, .int .i64 1, .int .i64 0, .int .i64 0, .int .i64 0, .bool false, .slice Ab n cb, .slice Av n cv], rv TI 1 (.slice Ab n cb) n (is (bsI ws)), rv TI 1 (.slice Av n cv) n (is (vsI ws)), rv TI 1 (.slice Ao no co) no (is (bsI ts)), rv TI 1 (.slice Ak nk ck) nk (is (bsI ks)), rv TI 1 (.slice Al nk cl0) nk (is (vsI ks))]) wr)) (fun _ _ _ iv _ => n - (intOf iv).toNat)
  case atStart => exact ⟨0, 0, 0, 0, 0, 0, none, none, none, [], [], by omega, rfl, rfl, rfl, rfl, by omega, by omega, Lib.hid rfl, Lib.hid rfl, Lib.hid rfl, Lib.hid rfl, L1⟩
  case round =>
    clear L1
    obtain ⟨i, no, nk, co, ck, cl0, Ao, Ak, Al, ts, ks, hin, rfl, rfl, rfl, rfl, hno, hnk, HT, HTN, HK, HKN, L0⟩ := hrel
    have c0_0_13 : wr.cell? ⟨y, 13, none⟩ = some (.slice Ab n cb) := L0.out.cR 0 13 rfl rfl
    have c0_0_14 : wr.cell? ⟨y, 14, none⟩ = some (.slice Av n cv) := L0.out.cR 0 14 rfl rfl
    by_cases hlt : i < n
    · have hltI : (i : Int) < n := by omega
      obtain ⟨⟨kb, kv⟩, hp⟩ : ∃ p, ws[i]? = some p := ⟨_, List.getElem?_eq_getElem (by omega)⟩
      obtain ⟨gb, cb2, he, hcb⟩ := rv_cells (L0.out.isR 1 rfl : (rv TI 1 (.slice Ab n cb) n (is (bsI ws))).is wr) (by omega)
      injection he with he1 he2 he3
      subst he1
      clear he2 he3
      obtain ⟨gv, cv2, he, hcv⟩ := rv_cells (L0.out.isR 2 rfl : (rv TI 1 (.slice Av n cv) n (is (vsI ws))).is wr) (by omega)
      injection he with he1 he2 he3
      subst he1
      clear he2 he3
      have hpb : (is (bsI ws))[i]? = some (.int .i64 kb) := by simp [bsI, hp]
      have hpv : (is (vsI ws))[i]? = some (.int .i64 kv) := by simp [vsI, hp]
      have r1 : wr.cell? ⟨gb, i, none⟩ = some (.int .i64 kb) := hcb _ _ hpb
      have r2 : wr.cell? ⟨gv, i, none⟩ = some (.int .i64 kv) := hcv _ _ hpv
      clear hcb hcv
      by_cases hz : kv ≤ z
      · have HT2 := Lib.hid (tk_yes hp hz)
        obtain ⟨Aa, ca, w5, hrun, hL⟩ := Lo.pushI L0.out 3 rfl (by omega) (kb : Int)
        have LN : Hid (Lo w0 lo hi b rb hq A B (X ++ [bx y TRl #[.int .i64 20, .int .i64 4, .int .i64 1, .int .i64 3, .int .i64 2, .int .i64 1, .int .i64 0, .int .i64 1, .int .i64 1, .int .i64 0, .int .i64 0, .int .i64 0, .bool false, .slice (some ⟨gb, 0, none⟩) n cb, .slice (some ⟨gv, 0, none⟩) n cv], rv TI 1 (.slice (some ⟨gb, 0, none⟩) n cb) n (is (bsI ws)), rv TI 1 (.slice (some ⟨gv, 0, none⟩) n cv) n (is (vsI ws)), rv TI 1 (.slice Aa (no + 1) ca) (no + 1) (is (bsI ts ++ [(kb : Int)])), rv TI 1 (.slice Ak nk ck) nk (is (bsI ks)), rv TI 1 (.slice Al nk cl0) nk (is (vsI ks))]) w5) := Lib.hid hL
        clear hL L0
        have HTB : Hid (ts ++ [(kb, kv)] = tk z (ws.take (i + 1))) := Lib.hid (by rw [HT2.out.1, HT.out])
        have HTN2 : Hid ((ts ++ [(kb, kv)]).length = no + 1) := Lib.hid (by rw [List.length_append, HTN.out]; rfl)
        have HK2 : Hid (ks = kp z (ws.take (i + 1))) := Lib.hid (by rw [HT2.out.2]; exact HK.out)
        go_wp2_with (at_builtin; refine wpList_append_run rfl _ _ _ rfl hrun (by rfl) (by rfl) ?_; clear hrun)
        go_roundw
        case rel => exact ⟨i + 1, no + 1, nk, ca, ck, cl0, Aa, Ak, Al, _, ks, by omega, by go_num, rfl, rfl, rfl, by omega, by omega, HTB, HTN2, HK2, HKN, Lib.hid (by rw [bsI_push]; exact LN.out)⟩
        case measure => (first | (simp [intOf]; omega) | simp [intOf])
      · have HT2 := Lib.hid (tk_no hp hz)
        have hzI : z < kv := by omega
        obtain ⟨Aa, ca, w5, hrun1, hL⟩ := Lo.pushI L0.out 4 rfl (by omega) (kb : Int)
        have LM1 : Hid (Lo w0 lo hi b rb hq A B (X ++ [bx y TRl #[.int .i64 20, .int .i64 4, .int .i64 1, .int .i64 3, .int .i64 2, .int .i64 1, .int .i64 0, .int .i64 1, .int .i64 1, .int .i64 0, .int .i64 0, .int .i64 0, .bool false, .slice (some ⟨gb, 0, none⟩) n cb, .slice (some ⟨gv, 0, none⟩) n cv], rv TI 1 (.slice (some ⟨gb, 0, none⟩) n cb) n (is (bsI ws)), rv TI 1 (.slice (some ⟨gv, 0, none⟩) n cv) n (is (vsI ws)), rv TI 1 (.slice Ao no co) no (is (bsI ts)), rv TI 1 (.slice Aa (nk + 1) ca) (nk + 1) (is (bsI ks ++ [(kb : Int)])), rv TI 1 (.slice Al nk cl0) nk (is (vsI ks))]) w5) := Lib.hid hL
        have c14 : w5.cell? ⟨y, 14, none⟩ = some (.slice (some ⟨gv, 0, none⟩) n cv) := hL.cR 0 14 rfl rfl
        have r3 : w5.cell? ⟨gv, i, none⟩ = some (.int .i64 kv) := Lo.vR hL 2 rfl (by omega) i hpv
        clear hL L0
        obtain ⟨Ac, cc, w6, hrun2, hL⟩ := Lo.pushI LM1.out 5 rfl (by omega) kv
        have LN : Hid (Lo w0 lo hi b rb hq A B (X ++ [bx y TRl #[.int .i64 20, .int .i64 4, .int .i64 1, .int .i64 3, .int .i64 2, .int .i64 1, .int .i64 0, .int .i64 1, .int .i64 1, .int .i64 0, .int .i64 0, .int .i64 0, .bool false, .slice (some ⟨gb, 0, none⟩) n cb, .slice (some ⟨gv, 0, none⟩) n cv], rv TI 1 (.slice (some ⟨gb, 0, none⟩) n cb) n (is (bsI ws)), rv TI 1 (.slice (some ⟨gv, 0, none⟩) n cv) n (is (vsI ws)), rv TI 1 (.slice Ao no co) no (is (bsI ts)), rv TI 1 (.slice Aa (nk + 1) ca) (nk + 1) (is (bsI ks ++ [(kb : Int)])), rv TI 1 (.slice Ac (nk + 1) cc) (nk + 1) (is (vsI ks ++ [kv]))]) w6) := Lib.hid hL
        clear hL LM1
        have HKB : Hid (ks ++ [(kb, kv)] = kp z (ws.take (i + 1))) := Lib.hid (by rw [HT2.out.2, HK.out])
        have HKN2 : Hid ((ks ++ [(kb, kv)]).length = nk + 1) := Lib.hid (by rw [List.length_append, HKN.out]; rfl)
        have HTB : Hid (ts = tk z (ws.take (i + 1))) := Lib.hid (by rw [HT2.out.1]; exact HT.out)
        go_wp2_with (first | (at_builtin; refine wpList_append_run rfl _ _ _ rfl hrun1 (by rfl) (by rfl) ?_; clear hrun1) | (at_builtin; refine wpList_append_run rfl _ _ _ rfl hrun2 (by rfl) (by rfl) ?_; clear hrun2))
        go_roundw
        case rel => exact ⟨i + 1, no, nk + 1, co, ca, cc, Ao, Aa, Ac, ts, _, by omega, by go_num, rfl, rfl, rfl, by omega, by omega, HTB, HTN, HKB, HKN2, Lib.hid (by rw [bsI_push, vsI_push]; exact LN.out)⟩
        case measure => (first | (simp [intOf]; omega) | simp [intOf])
    · obtain rfl : i = n := by omega
      have HWT : Hid (ws.take i = ws) := Lib.hid (List.take_of_length_le (by omega))
      clear hlt
      have z0_0_13 : wr.frozen? ⟨y, 13, none⟩ = false := L0.out.zR 0 13 rfl
      have z0_0_14 : wr.frozen? ⟨y, 14, none⟩ = false := L0.out.zR 0 14 rfl
      have LZ : Hid (Lo w0 lo hi b rb hq A B (X ++ [bx y TRl #[.int .i64 20, .int .i64 4, .int .i64 1, .int .i64 3, .int .i64 2, .int .i64 1, .int .i64 0, .int .i64 1, .int .i64 1, .int .i64 0, .int .i64 0, .int .i64 0, .bool false, .slice Ak nk ck, .slice Al nk cl0], rv TI 1 (.slice Ab i cb) i (is (bsI ws)), rv TI 1 (.slice Av i cv) i (is (vsI ws)), rv TI 1 (.slice Ao no co) no (is (bsI ts)), rv TI 1 (.slice Ak nk ck) nk (is (bsI ks)), rv TI 1 (.slice Al nk cl0) nk (is (vsI ks))]) (((wr.setCell ⟨y, 13, none⟩ (.slice Ak nk ck)).setCell ⟨y, 14, none⟩ (.slice Al nk cl0)))) := Lib.hid (Lo.putR (L0.out.putR 0 13 (.slice Ak nk ck) rfl (by rfl)) 0 14 (.slice Al nk cl0) rfl (by rfl))
      go_wp2_with fail
      go_ret
      refine ⟨Ao, no, co, ts, Ak, Al, ck, cl0, nk, ks, rfl, by rw [HT.out, HWT.out], HTN.out, by rw [HK.out, HWT.out], HKN.out, ?_⟩
      exact Lo.sub (LZ.out.perm (List.Perm.append_left X (tkf_perm _ _ _ _ _ _))) (tkf_sub X _ _ _ _ _ _)
end Go.Proofs.Ytpjbmbipkmpkhaa.LmC
