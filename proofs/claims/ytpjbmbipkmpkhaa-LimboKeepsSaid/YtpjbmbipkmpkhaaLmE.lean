/-
  Contracts of a push under a drain, and of package limbo's drain, step by step. Contracts of the reference's drain.
-/
import Derived.Test.YtpjbmbipkmpkhaaLmA
import Derived.Deep.RegionLaw
import Derived.Deep.RegionHeld3
import Derived.Deep.Cut
import Derived.Deep.DeepCutAuto
import Derived.Deep.CutBlock
import Derived.BigQuiet
import Derived.Deep.QuietTactic
namespace Go.Proofs.Ytpjbmbipkmpkhaa.LmD
open Go.ChangeShapes Go.WideShapes Go.ChangeAt Go.RowKit
open PlainT BlkW LayS LayA LayF LayH LayK CelS CelM CelP CelV CelN CelO CelF LabD LabR LabP LabS LabX LabN CelLo RsA ObjA ClnA FreP FreA FreB LmP LmA
set_option linter.unusedVariables false
set_option maxHeartbeats 2000000
set_option maxRecDepth 100000


theorem Lo.dR {w0 w : World} {lo hi b rb : Nat} {q : Cfg} {A B : Int → List Int} {X rs : List Ob} (h : Lo w0 lo hi b rb q A B (X ++ rs) w) (k : Nat) {gl ol n c : Nat} {vs : List Value} {u : Value} (he : rs[k]? = some (rdv (.slice (some ⟨gl, ol, none⟩) n c) vs)) (j : Nat) (hx : vs[j]? = some u) : w.cell? ⟨gl, ol + j, none⟩ = some u := by
  have hr : RdV w (.slice (some ⟨gl, ol, none⟩) n c) vs := h.isR k he
  obtain ⟨⟨p, cap, e, _, _, hc⟩, _⟩ := hr
  injection e with e1 e2 e3
  obtain ⟨g', o', e, hy⟩ := hc j u hx
  rw [← e1] at e
  injection e with e
  injection e with e4 e5
  rw [e4, e5]
  exact hy
theorem Lo.turnG {w0 w w' : World} {lo hi b rb : Nat} {q : Cfg} {A B A' B' : Int → List Int} {X rs : List Ob} {g : Nat} {T : TypeId} {cs cs' : Array Value} (h : Lo w0 lo hi b rb q A B (X ++ rs) w) (k : Nat) (he : rs[k]? = some (bx g T cs)) (D : Duo lo hi w' b rb q A' B') (M : Mem w' g T cs') (F : Fr (PG lo hi g) w w') : Lo w0 lo hi b rb q A' B' (X ++ rs.set k (bx g T cs')) w' := by
  have := h.turn _ (rs_at he) D M F
  rwa [rs_set] at this
theorem Lo.hiR {w0 w : World} {lo hi b rb : Nat} {q : Cfg} {A B : Int → List Int} {X rs : List Ob} {g : Nat} {T : TypeId} {cs : Array Value} (h : Lo w0 lo hi b rb q A B (X ++ rs) w) (k : Nat) (he : rs[k]? = some (bx g T cs)) : hi ≤ g := h.hi_ _ _ (rs_at he) g (List.mem_singleton.2 rfl)
/-- The word that a push has seen behind its step. -/
def pX (A : Int → List Int) (bk : Nat) (st : Nat) (x : Int) : Int := if st = 0 then (A 7).getD (cl bk) 0 else x
section
variable {w0 w : World} {lo hi b rb : Nat} {A B : Int → List Int} {X rs : List Ob} {g bk st : Nat} {x : Int} {t : List Nat} {k1 k2 k3 k4 k5 : Int} {d : Bool} {st1 : Int} {x1 : Int}
theorem lp_step {A' : Int → List Int} (h : Lo w0 lo hi b rb hq A B (X ++ rs) w) (k : Nat) (he : rs[k]? = some (bx g TPu (uBox st (cl bk) bk x))) (hd : Dk A (bk :: t) st x) (hac0 : Hid (dC A (bk :: t) st x = (k1, k2, k3, k4, k5, d))) (hA0 : Hid (dA A (bk :: t) st x = A')) (hs0 : Hid ((st : Int) + 1 = st1)) (hx0 : Hid (pX A bk st x = x1)) :
    Calls Try.prog 42 #[.pointer (some ⟨g, 0, none⟩), .pointer (some ⟨b, 0, none⟩)] w fun e w' => e = .returned (accV k1 k2 k3 k4 k5 d) ∧ Lo w0 lo hi b rb hq A' B (X ++ rs.set k (bx g TPu (uBox st1 (cl bk) bk x1))) w' := by
  have hac := hac0.out
  have hA := hA0.out
  have hs := hs0.out
  have hx := hx0.out
  clear hac0 hA0 hs0 hx0
  have hb := hd.lt bk (List.mem_cons_self ..)
  have hc := cl_lt bk
  have hg := Lo.hiR h k he
  have M : Mem w g TPu (uBox st (cl bk) bk x) := h.memR k he
  have h3 : st = 0 ∨ st = 1 ∨ st = 2 := by have := hd.st2; omega
  have hu := hd.six.u7 (cl bk) hc
  rcases h3 with rfl | rfl | rfl
  · simp only [dC] at hac
    obtain ⟨rfl, rfl, rfl, rfl, rfl, rfl⟩ := prod6 hac
    simp only [dA] at hA
    subst hA
    simp only [pX] at hx
    subst hx
    obtain rfl : (1 : Int) = st1 := by rw [← hs]; rfl
    refine (u_load h.duo (.inr hg) bk x (cl bk) (by rw [hd.six.l7]; exact hc) _ rfl hu.1 hu.2 M).mono ?_
    rintro e w' ⟨rfl, D, M', F⟩
    exact ⟨rfl, Lo.turnG h k he D M' F⟩
  · simp only [dC, if_neg (show ¬ (1 : Nat) = 0 by decide)] at hac
    obtain ⟨rfl, rfl, rfl, rfl, rfl, rfl⟩ := prod6 hac
    simp only [dA, if_neg (show ¬ (1 : Nat) = 0 by decide)] at hA
    subst hA
    simp only [pX, if_neg (show ¬ (1 : Nat) = 0 by decide)] at hx
    subst hx
    obtain rfl : (2 : Int) = st1 := by rw [← hs]; rfl
    have hm := Int.emod_nonneg x (show (65536 : Int) ≠ 0 by decide)
    have hm2 := Int.emod_lt_of_pos x (show (0 : Int) < 65536 by decide)
    refine (u_link h.duo (.inr hg) (cl bk) x hd.xin.1 hd.xin.2 (x % 65536) rfl hm (by omega) bk (by rw [hd.six.l8]; exact hb) _ rfl M).mono ?_
    rintro e w' ⟨rfl, D, M', F⟩
    exact ⟨rfl, Lo.turnG h k he D M' F⟩
  · simp only [dC, if_neg (show ¬ (2 : Nat) = 0 by decide), if_neg (show ¬ (2 : Nat) = 1 by decide)] at hac
    obtain ⟨rfl, rfl, rfl, rfl, rfl, rfl⟩ := prod6 hac
    simp only [dA, if_neg (show ¬ (2 : Nat) = 0 by decide), if_neg (show ¬ (2 : Nat) = 1 by decide)] at hA
    subst hA
    simp only [pX, if_neg (show ¬ (2 : Nat) = 0 by decide)] at hx
    subst hx
    obtain rfl : (3 : Int) = st1 := by rw [← hs]; rfl
    refine (u_step2_yes h.duo (.inr hg) bk x hd.xin.1 hd.xin.2 (by omega) (by omega) (cl bk) (by rw [hd.six.l7]; exact hc) (hd.two bk t rfl (by decide)) _ rfl M).mono ?_
    rintro e w' ⟨rfl, D, M', F⟩
    exact ⟨rfl, Lo.turnG h k he D M' F⟩
theorem ly_step {B' : Int → List Int} (h : Lo w0 lo hi b rb hq A B (X ++ rs) w) (k : Nat) (he : rs[k]? = some (bx g TRp (ruBox st (cl bk) bk x))) (hd : Dk B (bk :: t) st x) (hac0 : Hid (dC B (bk :: t) st x = (k1, k2, k3, k4, k5, d))) (hA0 : Hid (dA B (bk :: t) st x = B')) (hs0 : Hid ((st : Int) + 1 = st1)) (hx0 : Hid (pX B bk st x = x1)) :
    Calls Try.prog 43 #[.pointer (some ⟨g, 0, none⟩), .pointer (some ⟨rb, 0, none⟩)] w fun e w' => e = .returned (accV k1 k2 k3 k4 k5 d) ∧ Lo w0 lo hi b rb hq A B' (X ++ rs.set k (bx g TRp (ruBox st1 (cl bk) bk x1))) w' := by
  have hac := hac0.out
  have hA := hA0.out
  have hs := hs0.out
  have hx := hx0.out
  clear hac0 hA0 hs0 hx0
  have hb := hd.lt bk (List.mem_cons_self ..)
  have hc := cl_lt bk
  have hg := Lo.hiR h k he
  have M : Mem w g TRp (ruBox st (cl bk) bk x) := h.memR k he
  have h3 : st = 0 ∨ st = 1 ∨ st = 2 := by have := hd.st2; omega
  have hu := hd.six.u7 (cl bk) hc
  rcases h3 with rfl | rfl | rfl
  · simp only [dC] at hac
    obtain ⟨rfl, rfl, rfl, rfl, rfl, rfl⟩ := prod6 hac
    simp only [dA] at hA
    subst hA
    simp only [pX] at hx
    subst hx
    obtain rfl : (1 : Int) = st1 := by rw [← hs]; rfl
    refine (v_load h.duo (.inr hg) bk x (cl bk) (by rw [hd.six.l7]; exact hc) _ rfl hu.1 hu.2 M).mono ?_
    rintro e w' ⟨rfl, D, M', F⟩
    exact ⟨rfl, Lo.turnG h k he D M' F⟩
  · simp only [dC, if_neg (show ¬ (1 : Nat) = 0 by decide)] at hac
    obtain ⟨rfl, rfl, rfl, rfl, rfl, rfl⟩ := prod6 hac
    simp only [dA, if_neg (show ¬ (1 : Nat) = 0 by decide)] at hA
    subst hA
    simp only [pX, if_neg (show ¬ (1 : Nat) = 0 by decide)] at hx
    subst hx
    obtain rfl : (2 : Int) = st1 := by rw [← hs]; rfl
    have hm := Int.emod_nonneg x (show (65536 : Int) ≠ 0 by decide)
    have hm2 := Int.emod_lt_of_pos x (show (0 : Int) < 65536 by decide)
    refine (v_link h.duo (.inr hg) (cl bk) x hd.xin.1 hd.xin.2 (x % 65536) rfl hm (by omega) bk (by rw [hd.six.l8]; exact hb) _ rfl M).mono ?_
    rintro e w' ⟨rfl, D, M', F⟩
    exact ⟨rfl, Lo.turnG h k he D M' F⟩
  · simp only [dC, if_neg (show ¬ (2 : Nat) = 0 by decide), if_neg (show ¬ (2 : Nat) = 1 by decide)] at hac
    obtain ⟨rfl, rfl, rfl, rfl, rfl, rfl⟩ := prod6 hac
    simp only [dA, if_neg (show ¬ (2 : Nat) = 0 by decide), if_neg (show ¬ (2 : Nat) = 1 by decide)] at hA
    subst hA
    simp only [pX, if_neg (show ¬ (2 : Nat) = 0 by decide)] at hx
    subst hx
    obtain rfl : (3 : Int) = st1 := by rw [← hs]; rfl
    refine (v_put_yes h.duo (.inr hg) bk x hd.xin.1 hd.xin.2 (by omega) (by omega) (cl bk) (by rw [hd.six.l7]; exact hc) (hd.two bk t rfl (by decide)) _ rfl M).mono ?_
    rintro e w' ⟨rfl, D, M', F⟩
    exact ⟨rfl, Lo.turnG h k he D M' F⟩
end

theorem dr_left {w : World} {g n c : Nat} {p : Option Addr} (M : Mem w g TDr #[.slice p n c]) : Calls Try.prog 60 #[.pointer (some ⟨g, 0, none⟩)] w fun e w' => e = .returned (.int .i64 n) ∧ w = w' := by
  have c0 := M.cell 0
  simp at c0
  clear M
  go_enter Try.func60, Try.ntmps60
  go_wp2
  go_ret
  exact ⟨rfl, rfl⟩

theorem dr_done {w : World} {g n c : Nat} {p : Option Addr} (M : Mem w g TDr #[.slice p n c]) {D : Bool} (hd : decide (n = 0) = D) : Calls Try.prog 58 #[.pointer (some ⟨g, 0, none⟩)] w fun e w' => e = .returned (.bool D) ∧ w = w' := by
  have hl := dr_left M
  have hD : ((n : Int) == 0) = D := by
    rw [← hd]
    by_cases h : n = 0
    · subst h; rfl
    · rw [decide_eq_false h]
      rw [beq_eq_false_iff_ne]
      omega
  clear M hd
  go_enter Try.func58, Try.ntmps58
  go_wp2_with (go_at_call 60; (with_reducible refine hl.mono ?_); rintro e w1 ⟨rfl, rfl⟩)
  go_ret
  exact ⟨rfl, rfl⟩

theorem dr_over {w0 w : World} {lo hi b rb : Nat} {A B : Int → List Int} {X : List Ob} {g n c : Nat} {p : Option Addr} (hd : decide (n = 0) = true) (h : Lo w0 lo hi b rb hq A B (X ++ [bx g TDr #[.slice p n c]]) w) : Calls Try.prog 61 #[.pointer (some ⟨g, 0, none⟩), .pointer (some ⟨b, 0, none⟩)] w fun e w' => e = .returned (accV 0 0 0 0 0 false) ∧ Lo w0 lo hi b rb hq A B (X ++ [bx g TDr #[.slice p n c]]) w' := by
  have L0 := Lib.hid h
  clear h
  go_enter Try.func61, Try.ntmps61
  go_upto_region 1 with (fail)
  have L1 := Lib.hid (L0.out.newR 62 #[.int .i64 0, .int .i64 0, .int .i64 0, .int .u64 0, .int .u64 0, .bool false])
  obtain ⟨gr, hn⟩ : ∃ gr, w.heap.size = gr := ⟨_, rfl⟩
  rw [hn] at L1
  first | rw [hn] | skip
  clear hn
  obtain ⟨W1, hW⟩ : ∃ W', w.alloc (.cells #[.int .i64 0, .int .i64 0, .int .i64 0, .int .u64 0, .int .u64 0, .bool false] 62) = W' := ⟨_, rfl⟩
  rw [hW] at L1
  first | rw [hW] | skip
  clear hW
  have L1 : Hid (Lo w0 lo hi b rb hq A B (X ++ [bx g TDr #[.slice p n c], bx gr 62 #[.int .i64 0, .int .i64 0, .int .i64 0, .int .u64 0, .int .u64 0, .bool false]]) W1) := L1
  clear L0
  have hdn := dr_done (L1.out.memR 0 rfl) hd
  go_upto_region 2 with ((go_at_call 58; (with_reducible refine hdn.mono ?_); rintro e w9 ⟨rfl, rfl⟩))
  clear hdn
  have c1_1_0 : W1.cell? ⟨gr, 0, none⟩ = some (.int .i64 0) := L1.out.cR 1 0 rfl rfl
  have z1_1_0 : W1.frozen? ⟨gr, 0, none⟩ = false := L1.out.zR 1 0 rfl
  have c1_1_1 : W1.cell? ⟨gr, 1, none⟩ = some (.int .i64 0) := L1.out.cR 1 1 rfl rfl
  have z1_1_1 : W1.frozen? ⟨gr, 1, none⟩ = false := L1.out.zR 1 1 rfl
  have c1_1_2 : W1.cell? ⟨gr, 2, none⟩ = some (.int .i64 0) := L1.out.cR 1 2 rfl rfl
  have z1_1_2 : W1.frozen? ⟨gr, 2, none⟩ = false := L1.out.zR 1 2 rfl
  have c1_1_3 : W1.cell? ⟨gr, 3, none⟩ = some (.int .u64 0) := L1.out.cR 1 3 rfl rfl
  have z1_1_3 : W1.frozen? ⟨gr, 3, none⟩ = false := L1.out.zR 1 3 rfl
  have c1_1_4 : W1.cell? ⟨gr, 4, none⟩ = some (.int .u64 0) := L1.out.cR 1 4 rfl rfl
  have z1_1_4 : W1.frozen? ⟨gr, 4, none⟩ = false := L1.out.zR 1 4 rfl
  have c1_1_5 : W1.cell? ⟨gr, 5, none⟩ = some (.bool false) := L1.out.cR 1 5 rfl rfl
  have z1_1_5 : W1.frozen? ⟨gr, 5, none⟩ = false := L1.out.zR 1 5 rfl
  go_wp2
  have L2 : Hid (Lo w0 lo hi b rb hq A B (X ++ [bx g TDr #[.slice p n c], bx gr 62 #[.int .i64 0, .int .i64 0, .int .i64 0, .int .u64 0, .int .u64 0, .bool false]]) (((((((W1.setCell ⟨gr, 0, none⟩ (.int .i64 0)).setCell ⟨gr, 1, none⟩ (.int .i64 0)).setCell ⟨gr, 2, none⟩ (.int .i64 0)).setCell ⟨gr, 3, none⟩ (.int .u64 0)).setCell ⟨gr, 4, none⟩ (.int .u64 0)).setCell ⟨gr, 5, none⟩ (.bool false)))) := Lib.hid (L1.out.sixR 1 rfl (.int .i64 0) (.int .i64 0) (.int .i64 0) (.int .u64 0) (.int .u64 0) (.bool false))
  obtain ⟨V, hV⟩ : ∃ V, ((((((W1.setCell ⟨gr, 0, none⟩ (.int .i64 0)).setCell ⟨gr, 1, none⟩ (.int .i64 0)).setCell ⟨gr, 2, none⟩ (.int .i64 0)).setCell ⟨gr, 3, none⟩ (.int .u64 0)).setCell ⟨gr, 4, none⟩ (.int .u64 0)).setCell ⟨gr, 5, none⟩ (.bool false)) = V := ⟨_, rfl⟩
  rw [hV] at L2 ⊢
  clear hV
  have hF : Lo w0 lo hi b rb hq A B (X ++ [bx g TDr #[.slice p n c]]) V := Lo.dropR (rs2 := [bx gr 62 #[.int .i64 0, .int .i64 0, .int .i64 0, .int .u64 0, .int .u64 0, .bool false]]) L2.out
  refine bodyPost_ret (v := .agg #[.int .i64 0, .int .i64 0, .int .i64 0, .int .u64 0, .int .u64 0, .bool false]) (results_cell_row rfl _ _ gr 62 #[.int .i64 0, .int .i64 0, .int .i64 0, .int .u64 0, .int .u64 0, .bool false] (0, 0) _ (by simp) (L2.out.memR 1 rfl) Try.underlying62 rfl (by kernel_rfl)) rfl ?_
  exact ⟨rfl, hF⟩

theorem dr_go {w0 w : World} {lo hi b rb : Nat} {A B : Int → List Int} {X : List Ob} {g g0 gl ol n c bk st : Nat} {x : Int} {t : List Nat} {rest : List Value} {A' : Int → List Int} {k1 k2 k3 k4 k5 : Int} {d : Bool} (n1 : 1 ≤ n) (nc : n ≤ c) (hdk : Dk A (bk :: t) st x) (hac : Hid (dC A (bk :: t) st x = (k1, k2, k3, k4, k5, d))) (hA : Hid (dA A (bk :: t) st x = A')) {st1 x1 : Int} (hs : Hid ((st : Int) + 1 = st1)) (hx : Hid (pX A bk st x = x1)) (hst : st < 2) (h : Lo w0 lo hi b rb hq A B (X ++ [bx g TDr #[.slice (some ⟨gl, ol, none⟩) n c], rdv (.slice (some ⟨gl, ol, none⟩) n c) (.pointer (some ⟨g0, 0, none⟩) :: rest), bx g0 TPu #[.int .i64 st, .int .i64 (cl bk : Int), .int .i64 bk, .int .u64 x]]) w) : Calls Try.prog 61 #[.pointer (some ⟨g, 0, none⟩), .pointer (some ⟨b, 0, none⟩)] w fun e w' => e = .returned (accV k1 k2 k3 k4 k5 d) ∧ Lo w0 lo hi b rb hq A' B (X ++ [bx g TDr #[.slice (some ⟨gl, ol, none⟩) n c], rdv (.slice (some ⟨gl, ol, none⟩) n c) (.pointer (some ⟨g0, 0, none⟩) :: rest), bx g0 TPu #[.int .i64 st1, .int .i64 (cl bk : Int), .int .i64 bk, .int .u64 x1]]) w' := by
  have L0 := Lib.hid h
  clear h
  have hnI : (0 : Int) < (n : Int) := by omega
  have hnN : 0 < n := n1
  have hd : decide (n = 0) = false := by simp; omega
  go_enter Try.func61, Try.ntmps61
  go_upto_region 1 with (fail)
  have L1 := Lib.hid (L0.out.newR 62 #[.int .i64 0, .int .i64 0, .int .i64 0, .int .u64 0, .int .u64 0, .bool false])
  obtain ⟨gr, hn⟩ : ∃ gr, w.heap.size = gr := ⟨_, rfl⟩
  rw [hn] at L1
  first | rw [hn] | skip
  clear hn
  obtain ⟨W1, hW⟩ : ∃ W', w.alloc (.cells #[.int .i64 0, .int .i64 0, .int .i64 0, .int .u64 0, .int .u64 0, .bool false] 62) = W' := ⟨_, rfl⟩
  rw [hW] at L1
  first | rw [hW] | skip
  clear hW
  have L1 : Hid (Lo w0 lo hi b rb hq A B (X ++ [bx g TDr #[.slice (some ⟨gl, ol, none⟩) n c], rdv (.slice (some ⟨gl, ol, none⟩) n c) (.pointer (some ⟨g0, 0, none⟩) :: rest), bx g0 TPu #[.int .i64 st, .int .i64 (cl bk : Int), .int .i64 bk, .int .u64 x], bx gr 62 #[.int .i64 0, .int .i64 0, .int .i64 0, .int .u64 0, .int .u64 0, .bool false]]) W1) := L1
  clear L0
  have hdn := dr_done (L1.out.memR 0 rfl) hd
  go_upto_region 3 with ((go_at_call 58; (with_reducible refine hdn.mono ?_); rintro e w9 ⟨rfl, rfl⟩))
  clear hdn
  have c1_0_0 : W1.cell? ⟨g, 0, none⟩ = some (.slice (some ⟨gl, ol, none⟩) n c) := L1.out.cR 0 0 rfl rfl
  have q0 : W1.cell? ⟨gl, ol, none⟩ = some (.pointer (some ⟨g0, 0, none⟩)) := Lo.dR L1.out 1 rfl 0 rfl
  have hc := lp_step L1.out 2 rfl hdk hac hA hs hx
  go_upto_region 4 with ((go_at_call 42; refine hc.mono ?_; rintro e w1 ⟨rfl, hL⟩))
  have L2 : Hid (Lo w0 lo hi b rb hq A' B (X ++ [bx g TDr #[.slice (some ⟨gl, ol, none⟩) n c], rdv (.slice (some ⟨gl, ol, none⟩) n c) (.pointer (some ⟨g0, 0, none⟩) :: rest), bx g0 TPu #[.int .i64 st1, .int .i64 (cl bk : Int), .int .i64 bk, .int .u64 x1], bx gr 62 #[.int .i64 0, .int .i64 0, .int .i64 0, .int .u64 0, .int .u64 0, .bool false]]) w1) := Lib.hid hL
  clear hc hL L1 c1_0_0 q0
  have L3 := Lib.hid (L2.out.newR 62 #[.int .i64 k1, .int .i64 k2, .int .i64 k3, .int .u64 k4, .int .u64 k5, .bool d])
  obtain ⟨ga, hn⟩ : ∃ ga, w1.heap.size = ga := ⟨_, rfl⟩
  rw [hn] at L3
  first | rw [hn] | skip
  clear hn
  obtain ⟨W3, hW⟩ : ∃ W', w1.alloc (.cells #[.int .i64 k1, .int .i64 k2, .int .i64 k3, .int .u64 k4, .int .u64 k5, .bool d] 62) = W' := ⟨_, rfl⟩
  rw [hW] at L3
  first | rw [hW] | skip
  clear hW
  have L3 : Hid (Lo w0 lo hi b rb hq A' B (X ++ [bx g TDr #[.slice (some ⟨gl, ol, none⟩) n c], rdv (.slice (some ⟨gl, ol, none⟩) n c) (.pointer (some ⟨g0, 0, none⟩) :: rest), bx g0 TPu #[.int .i64 st1, .int .i64 (cl bk : Int), .int .i64 bk, .int .u64 x1], bx gr 62 #[.int .i64 0, .int .i64 0, .int .i64 0, .int .u64 0, .int .u64 0, .bool false], bx ga 62 #[.int .i64 k1, .int .i64 k2, .int .i64 k3, .int .u64 k4, .int .u64 k5, .bool d]]) W3) := L3
  clear L2
  have c3_0_0 : W3.cell? ⟨g, 0, none⟩ = some (.slice (some ⟨gl, ol, none⟩) n c) := L3.out.cR 0 0 rfl rfl
  have q1 : W3.cell? ⟨gl, ol, none⟩ = some (.pointer (some ⟨g0, 0, none⟩)) := Lo.dR L3.out 1 rfl 0 rfl
  have hpd := u_done g0 st1 (cl bk) bk x1 W3 (L3.out.memR 2 rfl)
  have hs3 : (st1 == 3) = false := by have := hs.out; rw [beq_eq_false_iff_ne]; omega
  rw [hs3] at hpd
  go_upto_region 6 with ((go_at_call 44; (with_reducible refine hpd.mono ?_); rintro e w9 ⟨rfl, rfl⟩))
  clear hpd
  have c3_3_0 : W3.cell? ⟨gr, 0, none⟩ = some (.int .i64 0) := L3.out.cR 3 0 rfl rfl
  have z3_3_0 : W3.frozen? ⟨gr, 0, none⟩ = false := L3.out.zR 3 0 rfl
  have c3_4_0 : W3.cell? ⟨ga, 0, none⟩ = some (.int .i64 k1) := L3.out.cR 4 0 rfl rfl
  have c3_3_1 : W3.cell? ⟨gr, 1, none⟩ = some (.int .i64 0) := L3.out.cR 3 1 rfl rfl
  have z3_3_1 : W3.frozen? ⟨gr, 1, none⟩ = false := L3.out.zR 3 1 rfl
  have c3_4_1 : W3.cell? ⟨ga, 1, none⟩ = some (.int .i64 k2) := L3.out.cR 4 1 rfl rfl
  have c3_3_2 : W3.cell? ⟨gr, 2, none⟩ = some (.int .i64 0) := L3.out.cR 3 2 rfl rfl
  have z3_3_2 : W3.frozen? ⟨gr, 2, none⟩ = false := L3.out.zR 3 2 rfl
  have c3_4_2 : W3.cell? ⟨ga, 2, none⟩ = some (.int .i64 k3) := L3.out.cR 4 2 rfl rfl
  have c3_3_3 : W3.cell? ⟨gr, 3, none⟩ = some (.int .u64 0) := L3.out.cR 3 3 rfl rfl
  have z3_3_3 : W3.frozen? ⟨gr, 3, none⟩ = false := L3.out.zR 3 3 rfl
  have c3_4_3 : W3.cell? ⟨ga, 3, none⟩ = some (.int .u64 k4) := L3.out.cR 4 3 rfl rfl
  have c3_3_4 : W3.cell? ⟨gr, 4, none⟩ = some (.int .u64 0) := L3.out.cR 3 4 rfl rfl
  have z3_3_4 : W3.frozen? ⟨gr, 4, none⟩ = false := L3.out.zR 3 4 rfl
  have c3_4_4 : W3.cell? ⟨ga, 4, none⟩ = some (.int .u64 k5) := L3.out.cR 4 4 rfl rfl
  have c3_3_5 : W3.cell? ⟨gr, 5, none⟩ = some (.bool false) := L3.out.cR 3 5 rfl rfl
  have z3_3_5 : W3.frozen? ⟨gr, 5, none⟩ = false := L3.out.zR 3 5 rfl
  have c3_4_5 : W3.cell? ⟨ga, 5, none⟩ = some (.bool d) := L3.out.cR 4 5 rfl rfl
  go_wp2
  have L4 : Hid (Lo w0 lo hi b rb hq A' B (X ++ [bx g TDr #[.slice (some ⟨gl, ol, none⟩) n c], rdv (.slice (some ⟨gl, ol, none⟩) n c) (.pointer (some ⟨g0, 0, none⟩) :: rest), bx g0 TPu #[.int .i64 st1, .int .i64 (cl bk : Int), .int .i64 bk, .int .u64 x1], bx gr 62 #[.int .i64 k1, .int .i64 k2, .int .i64 k3, .int .u64 k4, .int .u64 k5, .bool d], bx ga 62 #[.int .i64 k1, .int .i64 k2, .int .i64 k3, .int .u64 k4, .int .u64 k5, .bool d]]) (((((((W3.setCell ⟨gr, 0, none⟩ (.int .i64 k1)).setCell ⟨gr, 1, none⟩ (.int .i64 k2)).setCell ⟨gr, 2, none⟩ (.int .i64 k3)).setCell ⟨gr, 3, none⟩ (.int .u64 k4)).setCell ⟨gr, 4, none⟩ (.int .u64 k5)).setCell ⟨gr, 5, none⟩ (.bool d)))) := Lib.hid (L3.out.sixR 3 rfl (.int .i64 k1) (.int .i64 k2) (.int .i64 k3) (.int .u64 k4) (.int .u64 k5) (.bool d))
  obtain ⟨V, hV⟩ : ∃ V, ((((((W3.setCell ⟨gr, 0, none⟩ (.int .i64 k1)).setCell ⟨gr, 1, none⟩ (.int .i64 k2)).setCell ⟨gr, 2, none⟩ (.int .i64 k3)).setCell ⟨gr, 3, none⟩ (.int .u64 k4)).setCell ⟨gr, 4, none⟩ (.int .u64 k5)).setCell ⟨gr, 5, none⟩ (.bool d)) = V := ⟨_, rfl⟩
  rw [hV] at L4 ⊢
  clear hV
  have hF : Lo w0 lo hi b rb hq A' B (X ++ [bx g TDr #[.slice (some ⟨gl, ol, none⟩) n c], rdv (.slice (some ⟨gl, ol, none⟩) n c) (.pointer (some ⟨g0, 0, none⟩) :: rest), bx g0 TPu #[.int .i64 st1, .int .i64 (cl bk : Int), .int .i64 bk, .int .u64 x1]]) V := Lo.dropR (rs2 := [bx gr 62 #[.int .i64 k1, .int .i64 k2, .int .i64 k3, .int .u64 k4, .int .u64 k5, .bool d], bx ga 62 #[.int .i64 k1, .int .i64 k2, .int .i64 k3, .int .u64 k4, .int .u64 k5, .bool d]]) L4.out
  refine bodyPost_ret (v := .agg #[.int .i64 k1, .int .i64 k2, .int .i64 k3, .int .u64 k4, .int .u64 k5, .bool d]) (results_cell_row rfl _ _ gr 62 #[.int .i64 k1, .int .i64 k2, .int .i64 k3, .int .u64 k4, .int .u64 k5, .bool d] (0, 0) _ (by simp) (L4.out.memR 3 rfl) Try.underlying62 rfl (by kernel_rfl)) rfl ?_
  exact ⟨rfl, hF⟩

theorem dr_last {w0 w : World} {lo hi b rb : Nat} {A B : Int → List Int} {X : List Ob} {g g0 gl ol n c bk st : Nat} {x : Int} {t : List Nat} {rest : List Value} {A' : Int → List Int} {k1 k2 k3 k4 k5 : Int} {d : Bool} (n1 : 1 ≤ n) (nc : n ≤ c) (hdk : Dk A (bk :: t) st x) (hac : Hid (dC A (bk :: t) st x = (k1, k2, k3, k4, k5, d))) (hA : Hid (dA A (bk :: t) st x = A')) {st1 x1 : Int} (hs : Hid ((st : Int) + 1 = st1)) (hx : Hid (pX A bk st x = x1)) (hst : st = 2) (h : Lo w0 lo hi b rb hq A B (X ++ [bx g TDr #[.slice (some ⟨gl, ol, none⟩) n c], rdv (.slice (some ⟨gl, ol, none⟩) n c) (.pointer (some ⟨g0, 0, none⟩) :: rest), bx g0 TPu #[.int .i64 st, .int .i64 (cl bk : Int), .int .i64 bk, .int .u64 x]]) w) : Calls Try.prog 61 #[.pointer (some ⟨g, 0, none⟩), .pointer (some ⟨b, 0, none⟩)] w fun e w' => e = .returned (accV k1 k2 k3 k4 k5 d) ∧ ∃ v', Lo w0 lo hi b rb hq A' B (X ++ [bx g TDr #[v'], rdv v' rest, bx g0 TPu #[.int .i64 st1, .int .i64 (cl bk : Int), .int .i64 bk, .int .u64 x1]]) w' := by
  have L0 := Lib.hid h
  clear h
  have hnI : (0 : Int) < (n : Int) := by omega
  have hnN : 0 < n := n1
  have hd : decide (n = 0) = false := by simp; omega
  obtain ⟨p1, hsl, hpb, htl⟩ := tailV_run Try.underlying160 (fun wx => by kernel_rfl) gl ol n c n1 nc
  have HT := Lib.hid (And.intro hpb htl)
  clear hpb htl
  go_enter Try.func61, Try.ntmps61
  go_upto_region 1 with (fail)
  have L1 := Lib.hid (L0.out.newR 62 #[.int .i64 0, .int .i64 0, .int .i64 0, .int .u64 0, .int .u64 0, .bool false])
  obtain ⟨gr, hn⟩ : ∃ gr, w.heap.size = gr := ⟨_, rfl⟩
  rw [hn] at L1
  first | rw [hn] | skip
  clear hn
  obtain ⟨W1, hW⟩ : ∃ W', w.alloc (.cells #[.int .i64 0, .int .i64 0, .int .i64 0, .int .u64 0, .int .u64 0, .bool false] 62) = W' := ⟨_, rfl⟩
  rw [hW] at L1
  first | rw [hW] | skip
  clear hW
  have L1 : Hid (Lo w0 lo hi b rb hq A B (X ++ [bx g TDr #[.slice (some ⟨gl, ol, none⟩) n c], rdv (.slice (some ⟨gl, ol, none⟩) n c) (.pointer (some ⟨g0, 0, none⟩) :: rest), bx g0 TPu #[.int .i64 st, .int .i64 (cl bk : Int), .int .i64 bk, .int .u64 x], bx gr 62 #[.int .i64 0, .int .i64 0, .int .i64 0, .int .u64 0, .int .u64 0, .bool false]]) W1) := L1
  clear L0
  have hdn := dr_done (L1.out.memR 0 rfl) hd
  go_upto_region 3 with ((go_at_call 58; (with_reducible refine hdn.mono ?_); rintro e w9 ⟨rfl, rfl⟩))
  clear hdn
  have c1_0_0 : W1.cell? ⟨g, 0, none⟩ = some (.slice (some ⟨gl, ol, none⟩) n c) := L1.out.cR 0 0 rfl rfl
  have q0 : W1.cell? ⟨gl, ol, none⟩ = some (.pointer (some ⟨g0, 0, none⟩)) := Lo.dR L1.out 1 rfl 0 rfl
  have hc := lp_step L1.out 2 rfl hdk hac hA hs hx
  go_upto_region 4 with ((go_at_call 42; refine hc.mono ?_; rintro e w1 ⟨rfl, hL⟩))
  have L2 : Hid (Lo w0 lo hi b rb hq A' B (X ++ [bx g TDr #[.slice (some ⟨gl, ol, none⟩) n c], rdv (.slice (some ⟨gl, ol, none⟩) n c) (.pointer (some ⟨g0, 0, none⟩) :: rest), bx g0 TPu #[.int .i64 st1, .int .i64 (cl bk : Int), .int .i64 bk, .int .u64 x1], bx gr 62 #[.int .i64 0, .int .i64 0, .int .i64 0, .int .u64 0, .int .u64 0, .bool false]]) w1) := Lib.hid hL
  clear hc hL L1 c1_0_0 q0
  have L3 := Lib.hid (L2.out.newR 62 #[.int .i64 k1, .int .i64 k2, .int .i64 k3, .int .u64 k4, .int .u64 k5, .bool d])
  obtain ⟨ga, hn⟩ : ∃ ga, w1.heap.size = ga := ⟨_, rfl⟩
  rw [hn] at L3
  first | rw [hn] | skip
  clear hn
  obtain ⟨W3, hW⟩ : ∃ W', w1.alloc (.cells #[.int .i64 k1, .int .i64 k2, .int .i64 k3, .int .u64 k4, .int .u64 k5, .bool d] 62) = W' := ⟨_, rfl⟩
  rw [hW] at L3
  first | rw [hW] | skip
  clear hW
  have L3 : Hid (Lo w0 lo hi b rb hq A' B (X ++ [bx g TDr #[.slice (some ⟨gl, ol, none⟩) n c], rdv (.slice (some ⟨gl, ol, none⟩) n c) (.pointer (some ⟨g0, 0, none⟩) :: rest), bx g0 TPu #[.int .i64 st1, .int .i64 (cl bk : Int), .int .i64 bk, .int .u64 x1], bx gr 62 #[.int .i64 0, .int .i64 0, .int .i64 0, .int .u64 0, .int .u64 0, .bool false], bx ga 62 #[.int .i64 k1, .int .i64 k2, .int .i64 k3, .int .u64 k4, .int .u64 k5, .bool d]]) W3) := L3
  clear L2
  have c3_0_0 : W3.cell? ⟨g, 0, none⟩ = some (.slice (some ⟨gl, ol, none⟩) n c) := L3.out.cR 0 0 rfl rfl
  have q1 : W3.cell? ⟨gl, ol, none⟩ = some (.pointer (some ⟨g0, 0, none⟩)) := Lo.dR L3.out 1 rfl 0 rfl
  have hpd := u_done g0 st1 (cl bk) bk x1 W3 (L3.out.memR 2 rfl)
  have hs3 : (st1 == 3) = true := by have := hs.out; subst hst; subst this; rfl
  rw [hs3] at hpd
  go_upto_region 5 with ((go_at_call 44; (with_reducible refine hpd.mono ?_); rintro e w9 ⟨rfl, rfl⟩))
  clear hpd
  have z3_0_0 : W3.frozen? ⟨g, 0, none⟩ = false := L3.out.zR 0 0 rfl
  go_upto_region 6 with (fail)
  have L4 : Hid (Lo w0 lo hi b rb hq A' B (X ++ [bx g TDr #[.slice p1 (n - 1) (c - 1)], rdv (.slice (some ⟨gl, ol, none⟩) n c) (.pointer (some ⟨g0, 0, none⟩) :: rest), bx g0 TPu #[.int .i64 st1, .int .i64 (cl bk : Int), .int .i64 bk, .int .u64 x1], bx gr 62 #[.int .i64 0, .int .i64 0, .int .i64 0, .int .u64 0, .int .u64 0, .bool false], bx ga 62 #[.int .i64 k1, .int .i64 k2, .int .i64 k3, .int .u64 k4, .int .u64 k5, .bool d]]) (W3.setCell ⟨g, 0, none⟩ (.slice p1 (n - 1) (c - 1)))) := Lib.hid (L3.out.putR 0 0 (.slice p1 (n - 1) (c - 1)) rfl (by rfl))
  obtain ⟨W4, hW⟩ : ∃ W', W3.setCell ⟨g, 0, none⟩ (.slice p1 (n - 1) (c - 1)) = W' := ⟨_, rfl⟩
  rw [hW] at L4
  first | rw [hW] | skip
  clear hW
  clear L3 c3_0_0 q1 z3_0_0
  have L5 : Hid (Lo w0 lo hi b rb hq A' B (X ++ [bx g TDr #[.slice p1 (n - 1) (c - 1)], rdv (.slice p1 (n - 1) (c - 1)) rest, bx g0 TPu #[.int .i64 st1, .int .i64 (cl bk : Int), .int .i64 bk, .int .u64 x1], bx gr 62 #[.int .i64 0, .int .i64 0, .int .i64 0, .int .u64 0, .int .u64 0, .bool false], bx ga 62 #[.int .i64 k1, .int .i64 k2, .int .i64 k3, .int .u64 k4, .int .u64 k5, .bool d]]) W4) := Lib.hid (L4.out.seeR 1 rfl (HT.out.2 _ _ _ (L4.out.isR 1 rfl)) (fun x hx => mem_blk (v := .slice (some ⟨gl, ol, none⟩) n c) (HT.out.1.symm.trans (blk_mem hx))))
  clear L4
  have c5_3_0 : W4.cell? ⟨gr, 0, none⟩ = some (.int .i64 0) := L5.out.cR 3 0 rfl rfl
  have z5_3_0 : W4.frozen? ⟨gr, 0, none⟩ = false := L5.out.zR 3 0 rfl
  have c5_4_0 : W4.cell? ⟨ga, 0, none⟩ = some (.int .i64 k1) := L5.out.cR 4 0 rfl rfl
  have c5_3_1 : W4.cell? ⟨gr, 1, none⟩ = some (.int .i64 0) := L5.out.cR 3 1 rfl rfl
  have z5_3_1 : W4.frozen? ⟨gr, 1, none⟩ = false := L5.out.zR 3 1 rfl
  have c5_4_1 : W4.cell? ⟨ga, 1, none⟩ = some (.int .i64 k2) := L5.out.cR 4 1 rfl rfl
  have c5_3_2 : W4.cell? ⟨gr, 2, none⟩ = some (.int .i64 0) := L5.out.cR 3 2 rfl rfl
  have z5_3_2 : W4.frozen? ⟨gr, 2, none⟩ = false := L5.out.zR 3 2 rfl
  have c5_4_2 : W4.cell? ⟨ga, 2, none⟩ = some (.int .i64 k3) := L5.out.cR 4 2 rfl rfl
  have c5_3_3 : W4.cell? ⟨gr, 3, none⟩ = some (.int .u64 0) := L5.out.cR 3 3 rfl rfl
  have z5_3_3 : W4.frozen? ⟨gr, 3, none⟩ = false := L5.out.zR 3 3 rfl
  have c5_4_3 : W4.cell? ⟨ga, 3, none⟩ = some (.int .u64 k4) := L5.out.cR 4 3 rfl rfl
  have c5_3_4 : W4.cell? ⟨gr, 4, none⟩ = some (.int .u64 0) := L5.out.cR 3 4 rfl rfl
  have z5_3_4 : W4.frozen? ⟨gr, 4, none⟩ = false := L5.out.zR 3 4 rfl
  have c5_4_4 : W4.cell? ⟨ga, 4, none⟩ = some (.int .u64 k5) := L5.out.cR 4 4 rfl rfl
  have c5_3_5 : W4.cell? ⟨gr, 5, none⟩ = some (.bool false) := L5.out.cR 3 5 rfl rfl
  have z5_3_5 : W4.frozen? ⟨gr, 5, none⟩ = false := L5.out.zR 3 5 rfl
  have c5_4_5 : W4.cell? ⟨ga, 5, none⟩ = some (.bool d) := L5.out.cR 4 5 rfl rfl
  go_wp2
  have L6 : Hid (Lo w0 lo hi b rb hq A' B (X ++ [bx g TDr #[.slice p1 (n - 1) (c - 1)], rdv (.slice p1 (n - 1) (c - 1)) rest, bx g0 TPu #[.int .i64 st1, .int .i64 (cl bk : Int), .int .i64 bk, .int .u64 x1], bx gr 62 #[.int .i64 k1, .int .i64 k2, .int .i64 k3, .int .u64 k4, .int .u64 k5, .bool d], bx ga 62 #[.int .i64 k1, .int .i64 k2, .int .i64 k3, .int .u64 k4, .int .u64 k5, .bool d]]) (((((((W4.setCell ⟨gr, 0, none⟩ (.int .i64 k1)).setCell ⟨gr, 1, none⟩ (.int .i64 k2)).setCell ⟨gr, 2, none⟩ (.int .i64 k3)).setCell ⟨gr, 3, none⟩ (.int .u64 k4)).setCell ⟨gr, 4, none⟩ (.int .u64 k5)).setCell ⟨gr, 5, none⟩ (.bool d)))) := Lib.hid (L5.out.sixR 3 rfl (.int .i64 k1) (.int .i64 k2) (.int .i64 k3) (.int .u64 k4) (.int .u64 k5) (.bool d))
  obtain ⟨V, hV⟩ : ∃ V, ((((((W4.setCell ⟨gr, 0, none⟩ (.int .i64 k1)).setCell ⟨gr, 1, none⟩ (.int .i64 k2)).setCell ⟨gr, 2, none⟩ (.int .i64 k3)).setCell ⟨gr, 3, none⟩ (.int .u64 k4)).setCell ⟨gr, 4, none⟩ (.int .u64 k5)).setCell ⟨gr, 5, none⟩ (.bool d)) = V := ⟨_, rfl⟩
  rw [hV] at L6 ⊢
  clear hV
  have hF : Lo w0 lo hi b rb hq A' B (X ++ [bx g TDr #[.slice p1 (n - 1) (c - 1)], rdv (.slice p1 (n - 1) (c - 1)) rest, bx g0 TPu #[.int .i64 st1, .int .i64 (cl bk : Int), .int .i64 bk, .int .u64 x1]]) V := Lo.dropR (rs2 := [bx gr 62 #[.int .i64 k1, .int .i64 k2, .int .i64 k3, .int .u64 k4, .int .u64 k5, .bool d], bx ga 62 #[.int .i64 k1, .int .i64 k2, .int .i64 k3, .int .u64 k4, .int .u64 k5, .bool d]]) L6.out
  refine bodyPost_ret (v := .agg #[.int .i64 k1, .int .i64 k2, .int .i64 k3, .int .u64 k4, .int .u64 k5, .bool d]) (results_cell_row rfl _ _ gr 62 #[.int .i64 k1, .int .i64 k2, .int .i64 k3, .int .u64 k4, .int .u64 k5, .bool d] (0, 0) _ (by simp) (L6.out.memR 3 rfl) Try.underlying62 rfl (by kernel_rfl)) rfl ?_
  exact ⟨rfl, _, hF⟩
end Go.Proofs.Ytpjbmbipkmpkhaa.LmD
namespace Go.Proofs.Ytpjbmbipkmpkhaa.LmE
open Go.ChangeShapes Go.WideShapes Go.ChangeAt Go.RowKit
open PlainT BlkW LayS LayA LayF LayH LayK CelS CelM CelP CelV CelN CelO CelF LabD LabR LabP LabS LabX LabN CelLo RsA ObjA ClnA FreP FreA FreB LmP LmA LmD
set_option linter.unusedVariables false
set_option maxHeartbeats 2000000
set_option maxRecDepth 100000


theorem qd_done {w : World} {y n c : Nat} {p : Option Addr} {pv : Value} (M : Mem w y TRd #[.int .i64 20, .int .i64 4, .int .i64 1, .int .i64 3, .int .i64 2, .int .i64 1, .int .i64 0, .int .i64 1, .int .i64 1, .int .i64 0, .int .i64 0, .int .i64 0, .bool false, .slice p n c, pv]) {D : Bool} (hd : decide (n = 0) = D) : Calls Try.prog 59 #[.pointer (some ⟨y, 0, none⟩)] w fun e w' => e = .returned (.bool D) ∧ w = w' := by
  have c0 : w.cell? ⟨y, 13, none⟩ = some (.slice p n c) := M.cell 13
  have hD : ((n : Int) == 0) = D := by
    rw [← hd]
    by_cases h : n = 0
    · subst h; rfl
    · rw [decide_eq_false h]
      rw [beq_eq_false_iff_ne]
      omega
  clear M hd
  go_enter Try.func59, Try.ntmps59
  go_wp2
  go_ret
  exact ⟨rfl, rfl⟩

theorem qd_begin0 {w0 w : World} {lo hi b rb : Nat} {A B : Int → List Int} {X : List Ob} {y c : Nat} {p : Option Addr} {pv : Value} (h : Lo w0 lo hi b rb hq A B (X ++ [bx y TRd #[.int .i64 20, .int .i64 4, .int .i64 1, .int .i64 3, .int .i64 2, .int .i64 1, .int .i64 0, .int .i64 1, .int .i64 1, .int .i64 0, .int .i64 0, .int .i64 0, .bool false, .slice p 0 c, pv], rd .i64 (.slice p 0 c) []]) w) : Calls Try.prog 99 #[.pointer (some ⟨y, 0, none⟩)] w fun e w' => e = .returned (.tuple #[]) ∧ Lo w0 lo hi b rb hq A B (X ++ [bx y TRd #[.int .i64 20, .int .i64 4, .int .i64 1, .int .i64 3, .int .i64 2, .int .i64 1, .int .i64 0, .int .i64 1, .int .i64 1, .int .i64 0, .int .i64 0, .int .i64 0, .bool false, .slice p 0 c, pv], rd .i64 (.slice p 0 c) []]) w' := by
  have L0 := Lib.hid h
  clear h
  go_enter Try.func99, Try.ntmps99
  have c0_0_13 : w.cell? ⟨y, 13, none⟩ = some (.slice p 0 c) := L0.out.cR 0 13 rfl rfl
  go_wp2
  refine bodyPost_end (results_none (by rfl) _ _ _) rfl ?_
  exact ⟨rfl, L0.out⟩

theorem qd_begin1 {w0 w : World} {lo hi b rb : Nat} {A B : Int → List Int} {X : List Ob} {y gl ol n c bk : Nat} {rest : List Int} {pv : Value} (n1 : 1 ≤ n) (hb6 : bk < 6) (h : Lo w0 lo hi b rb hq A B (X ++ [bx y TRd #[.int .i64 20, .int .i64 4, .int .i64 1, .int .i64 3, .int .i64 2, .int .i64 1, .int .i64 0, .int .i64 1, .int .i64 1, .int .i64 0, .int .i64 0, .int .i64 0, .bool false, .slice (some ⟨gl, ol, none⟩) n c, pv], rd .i64 (.slice (some ⟨gl, ol, none⟩) n c) ((bk : Int) :: rest)]) w) : Calls Try.prog 99 #[.pointer (some ⟨y, 0, none⟩)] w fun e w' => e = .returned (.tuple #[]) ∧ ∃ gq, Lo w0 lo hi b rb hq A B (X ++ [bx y TRd #[.int .i64 20, .int .i64 4, .int .i64 1, .int .i64 3, .int .i64 2, .int .i64 1, .int .i64 0, .int .i64 1, .int .i64 1, .int .i64 0, .int .i64 0, .int .i64 0, .bool false, .slice (some ⟨gl, ol, none⟩) n c, .pointer (some ⟨gq, 0, none⟩)], rd .i64 (.slice (some ⟨gl, ol, none⟩) n c) ((bk : Int) :: rest), bx gq TRp #[.int .i64 (cl bk : Int), .int .i64 bk, .int .i64 0, .int .u64 0]]) w' := by
  have L0 := Lib.hid h
  clear h
  have hnI : (0 : Int) < (n : Int) := by omega
  have hnN : 0 < n := n1
  go_enter Try.func99, Try.ntmps99
  have c0_0_13 : w.cell? ⟨y, 13, none⟩ = some (.slice (some ⟨gl, ol, none⟩) n c) := L0.out.cR 0 13 rfl rfl
  go_upto_region 1 with (fail)
  have hall : ∀ (W : World) (rs : List Ob) (v : Value), Lo w0 lo hi b rb hq A B (X ++ rs) W → rs[0]? = some (bx y TRd #[.int .i64 20, .int .i64 4, .int .i64 1, .int .i64 3, .int .i64 2, .int .i64 1, .int .i64 0, .int .i64 1, .int .i64 1, .int .i64 0, .int .i64 0, .int .i64 0, .bool false, .slice (some ⟨gl, ol, none⟩) n c, v]) → rs[1]? = some (rd .i64 (.slice (some ⟨gl, ol, none⟩) n c) ((bk : Int) :: rest)) → (fun W : World => W.cell? ⟨y, 0, none⟩ = some (.int .i64 20) ∧ W.cell? ⟨y, 1, none⟩ = some (.int .i64 4) ∧ W.cell? ⟨y, 2, none⟩ = some (.int .i64 1) ∧ W.cell? ⟨y, 3, none⟩ = some (.int .i64 3) ∧ W.cell? ⟨y, 4, none⟩ = some (.int .i64 2) ∧ W.cell? ⟨y, 5, none⟩ = some (.int .i64 1) ∧ W.cell? ⟨y, 6, none⟩ = some (.int .i64 0) ∧ W.cell? ⟨y, 7, none⟩ = some (.int .i64 1) ∧ W.cell? ⟨y, 8, none⟩ = some (.int .i64 1) ∧ W.cell? ⟨y, 9, none⟩ = some (.int .i64 0) ∧ W.cell? ⟨y, 10, none⟩ = some (.int .i64 0) ∧ W.cell? ⟨y, 11, none⟩ = some (.int .i64 0) ∧ W.cell? ⟨y, 12, none⟩ = some (.bool false) ∧ W.cell? ⟨y, 13, none⟩ = some (.slice (some ⟨gl, ol, none⟩) n c) ∧ W.cell? ⟨gl, ol, none⟩ = some (.int .i64 bk)) W := fun W rs v h e0 e1 => ⟨h.cR 0 0 e0 rfl, h.cR 0 1 e0 rfl, h.cR 0 2 e0 rfl, h.cR 0 3 e0 rfl, h.cR 0 4 e0 rfl, h.cR 0 5 e0 rfl, h.cR 0 6 e0 rfl, h.cR 0 7 e0 rfl, h.cR 0 8 e0 rfl, h.cR 0 9 e0 rfl, h.cR 0 10 e0 rfl, h.cR 0 11 e0 rfl, h.cR 0 12 e0 rfl, h.cR 0 13 e0 rfl, h.rR 1 e1 0 rfl⟩
  have hs0 : (fun W : World => W.cell? ⟨y, 0, none⟩ = some (.int .i64 20) ∧ W.cell? ⟨y, 1, none⟩ = some (.int .i64 4) ∧ W.cell? ⟨y, 2, none⟩ = some (.int .i64 1) ∧ W.cell? ⟨y, 3, none⟩ = some (.int .i64 3) ∧ W.cell? ⟨y, 4, none⟩ = some (.int .i64 2) ∧ W.cell? ⟨y, 5, none⟩ = some (.int .i64 1) ∧ W.cell? ⟨y, 6, none⟩ = some (.int .i64 0) ∧ W.cell? ⟨y, 7, none⟩ = some (.int .i64 1) ∧ W.cell? ⟨y, 8, none⟩ = some (.int .i64 1) ∧ W.cell? ⟨y, 9, none⟩ = some (.int .i64 0) ∧ W.cell? ⟨y, 10, none⟩ = some (.int .i64 0) ∧ W.cell? ⟨y, 11, none⟩ = some (.int .i64 0) ∧ W.cell? ⟨y, 12, none⟩ = some (.bool false) ∧ W.cell? ⟨y, 13, none⟩ = some (.slice (some ⟨gl, ol, none⟩) n c) ∧ W.cell? ⟨gl, ol, none⟩ = some (.int .i64 bk)) w.drew := hall _ _ _ L0.out.drew rfl rfl
  have hcl : Calls Try.prog 33 #[.agg #[.int .i64 20, .int .i64 4, .int .i64 1, .int .i64 3, .int .i64 2, .int .i64 1, .int .i64 0, .int .i64 1, .int .i64 1, .int .i64 0, .int .i64 0, .int .i64 0, .bool false], .int .i64 bk] w.drew fun e w' => e = .returned (.int .i64 (cl bk : Int)) ∧ Below w.drew.heap.size w.drew w' := by rw [← cl_of hb6]; exact r_class hq bk w.drew
  have hnew : ∀ w2, Below w.drew.heap.size w.drew w2 → ∃ gq W3, Hid (Calls Try.prog 35 #[.int .i64 (cl bk : Int), .int .i64 bk] w2 fun e w' => e = .returned (.pointer (some ⟨gq, 0, none⟩)) ∧ w' = W3) ∧ Hid (Lo w0 lo hi b rb hq A B (X ++ [bx y TRd #[.int .i64 20, .int .i64 4, .int .i64 1, .int .i64 3, .int .i64 2, .int .i64 1, .int .i64 0, .int .i64 1, .int .i64 1, .int .i64 0, .int .i64 0, .int .i64 0, .bool false, .slice (some ⟨gl, ol, none⟩) n c, pv], rd .i64 (.slice (some ⟨gl, ol, none⟩) n c) ((bk : Int) :: rest), bx gq TRp #[.int .i64 (cl bk : Int), .int .i64 bk, .int .i64 0, .int .u64 0]]) W3) := fun w2 hb => ⟨_, _, Lib.hid (v_new (cl bk) bk w2), Lib.hid ((L0.out.drew.below hb).newR TRp #[.int .i64 (cl bk : Int), .int .i64 bk, .int .i64 0, .int .u64 0])⟩
  have hput : ∀ W3 gq, Lo w0 lo hi b rb hq A B (X ++ [bx y TRd #[.int .i64 20, .int .i64 4, .int .i64 1, .int .i64 3, .int .i64 2, .int .i64 1, .int .i64 0, .int .i64 1, .int .i64 1, .int .i64 0, .int .i64 0, .int .i64 0, .bool false, .slice (some ⟨gl, ol, none⟩) n c, pv], rd .i64 (.slice (some ⟨gl, ol, none⟩) n c) ((bk : Int) :: rest), bx gq TRp #[.int .i64 (cl bk : Int), .int .i64 bk, .int .i64 0, .int .u64 0]]) W3 → Lo w0 lo hi b rb hq A B (X ++ [bx y TRd #[.int .i64 20, .int .i64 4, .int .i64 1, .int .i64 3, .int .i64 2, .int .i64 1, .int .i64 0, .int .i64 1, .int .i64 1, .int .i64 0, .int .i64 0, .int .i64 0, .bool false, .slice (some ⟨gl, ol, none⟩) n c, .pointer (some ⟨gq, 0, none⟩)], rd .i64 (.slice (some ⟨gl, ol, none⟩) n c) ((bk : Int) :: rest), bx gq TRp #[.int .i64 (cl bk : Int), .int .i64 bk, .int .i64 0, .int .u64 0]]) ((W3.setCell ⟨y, 14, none⟩ (.pointer (some ⟨gq, 0, none⟩)))) := fun W3 gq h => h.putR 0 14 (.pointer (some ⟨gq, 0, none⟩)) rfl (by rfl)
  go_region_held3 (fun W : World => W.cell? ⟨y, 0, none⟩ = some (.int .i64 20) ∧ W.cell? ⟨y, 1, none⟩ = some (.int .i64 4) ∧ W.cell? ⟨y, 2, none⟩ = some (.int .i64 1) ∧ W.cell? ⟨y, 3, none⟩ = some (.int .i64 3) ∧ W.cell? ⟨y, 4, none⟩ = some (.int .i64 2) ∧ W.cell? ⟨y, 5, none⟩ = some (.int .i64 1) ∧ W.cell? ⟨y, 6, none⟩ = some (.int .i64 0) ∧ W.cell? ⟨y, 7, none⟩ = some (.int .i64 1) ∧ W.cell? ⟨y, 8, none⟩ = some (.int .i64 1) ∧ W.cell? ⟨y, 9, none⟩ = some (.int .i64 0) ∧ W.cell? ⟨y, 10, none⟩ = some (.int .i64 0) ∧ W.cell? ⟨y, 11, none⟩ = some (.int .i64 0) ∧ W.cell? ⟨y, 12, none⟩ = some (.bool false) ∧ W.cell? ⟨y, 13, none⟩ = some (.slice (some ⟨gl, ol, none⟩) n c) ∧ W.cell? ⟨gl, ol, none⟩ = some (.int .i64 bk)) (first | (with_reducible exact hs0) | (with_reducible exact hs1) | (with_reducible exact hs2) | (with_reducible exact hs3)) (first
    | (go_at_call 33; (with_reducible refine hcl.mono ?_); rintro e w2 ⟨rfl, hb⟩; have hs1 := hall _ _ _ (L0.out.drew.below hb) rfl rfl; obtain ⟨gq, W3, hnq, hL3⟩ := hnew _ hb)
    | (go_at_call 35; (with_reducible refine hnq.out.mono ?_); rintro e w3 ⟨rfl, rfl⟩; have hs2 := hall _ _ _ hL3.out rfl rfl; have m1 := hL3.out.cR 0 14 rfl rfl; have m2 := hL3.out.zR 0 14 rfl; have hs3 := hall _ _ _ (hput _ _ hL3.out) rfl rfl))
  have LF := Lib.hid (hput _ _ hL3.out)
  clear hput hL3 hs0 hs1 hs2 hs3 m1 m2 hall hcl hnew hnq L0
  go_wp2
  refine bodyPost_end (results_none (by rfl) _ _ _) rfl ?_
  exact ⟨rfl, _, LF.out⟩

theorem nd_perm (a b c : Ob) : [a, b, c].Perm [b, c, a] := List.perm_append_comm (l₁ := [a]) (l₂ := [b, c])
theorem nd_sub (X : List Ob) (a b c : Ob) : (X ++ [c, a]).Sublist (X ++ [b, c, a]) := (List.sublist_cons_self _ _).append_left X

theorem qd_new0 {w0 w : World} {lo hi b rb : Nat} {A B : Int → List Int} {X : List Ob} {c : Nat} {p : Option Addr} (h : Lo w0 lo hi b rb hq A B (X ++ [rd .i64 (.slice p 0 c) []]) w) : Calls Try.prog 56 #[.agg #[.int .i64 20, .int .i64 4, .int .i64 1, .int .i64 3, .int .i64 2, .int .i64 1, .int .i64 0, .int .i64 1, .int .i64 1, .int .i64 0, .int .i64 0, .int .i64 0, .bool false], .slice p 0 c] w fun e w' => ∃ y, e = .returned (.pointer (some ⟨y, 0, none⟩)) ∧ Lo w0 lo hi b rb hq A B (X ++ [bx y TRd #[.int .i64 20, .int .i64 4, .int .i64 1, .int .i64 3, .int .i64 2, .int .i64 1, .int .i64 0, .int .i64 1, .int .i64 1, .int .i64 0, .int .i64 0, .int .i64 0, .bool false, .slice p 0 c, .pointer none], rd .i64 (.slice p 0 c) []]) w' := by
  have L0 := Lib.hid h
  clear h
  go_enter Try.func56, Try.ntmps56
  go_upto_region 1 with (fail)
  have L1 := Lib.hid (L0.out.newR TC #[.int .i64 20, .int .i64 4, .int .i64 1, .int .i64 3, .int .i64 2, .int .i64 1, .int .i64 0, .int .i64 1, .int .i64 1, .int .i64 0, .int .i64 0, .int .i64 0, .bool false])
  obtain ⟨gc, hn⟩ : ∃ gc, w.heap.size = gc := ⟨_, rfl⟩
  rw [hn] at L1
  first | rw [hn] | skip
  clear hn
  obtain ⟨W1, hW⟩ : ∃ W', w.alloc (.cells #[.int .i64 20, .int .i64 4, .int .i64 1, .int .i64 3, .int .i64 2, .int .i64 1, .int .i64 0, .int .i64 1, .int .i64 1, .int .i64 0, .int .i64 0, .int .i64 0, .bool false] TC) = W' := ⟨_, rfl⟩
  rw [hW] at L1
  first | rw [hW] | skip
  clear hW
  have L1 : Hid (Lo w0 lo hi b rb hq A B (X ++ [rd .i64 (.slice p 0 c) [], bx gc TC #[.int .i64 20, .int .i64 4, .int .i64 1, .int .i64 3, .int .i64 2, .int .i64 1, .int .i64 0, .int .i64 1, .int .i64 1, .int .i64 0, .int .i64 0, .int .i64 0, .bool false]]) W1) := L1
  clear L0
  have c1_1_0 : W1.cell? ⟨gc, 0, none⟩ = some (.int .i64 20) := L1.out.cR 1 0 rfl rfl
  have c1_1_1 : W1.cell? ⟨gc, 1, none⟩ = some (.int .i64 4) := L1.out.cR 1 1 rfl rfl
  have c1_1_2 : W1.cell? ⟨gc, 2, none⟩ = some (.int .i64 1) := L1.out.cR 1 2 rfl rfl
  have c1_1_3 : W1.cell? ⟨gc, 3, none⟩ = some (.int .i64 3) := L1.out.cR 1 3 rfl rfl
  have c1_1_4 : W1.cell? ⟨gc, 4, none⟩ = some (.int .i64 2) := L1.out.cR 1 4 rfl rfl
  have c1_1_5 : W1.cell? ⟨gc, 5, none⟩ = some (.int .i64 1) := L1.out.cR 1 5 rfl rfl
  have c1_1_6 : W1.cell? ⟨gc, 6, none⟩ = some (.int .i64 0) := L1.out.cR 1 6 rfl rfl
  have c1_1_7 : W1.cell? ⟨gc, 7, none⟩ = some (.int .i64 1) := L1.out.cR 1 7 rfl rfl
  have c1_1_8 : W1.cell? ⟨gc, 8, none⟩ = some (.int .i64 1) := L1.out.cR 1 8 rfl rfl
  have c1_1_9 : W1.cell? ⟨gc, 9, none⟩ = some (.int .i64 0) := L1.out.cR 1 9 rfl rfl
  have c1_1_10 : W1.cell? ⟨gc, 10, none⟩ = some (.int .i64 0) := L1.out.cR 1 10 rfl rfl
  have c1_1_11 : W1.cell? ⟨gc, 11, none⟩ = some (.int .i64 0) := L1.out.cR 1 11 rfl rfl
  have c1_1_12 : W1.cell? ⟨gc, 12, none⟩ = some (.bool false) := L1.out.cR 1 12 rfl rfl
  go_upto_region 2 with (fail)
  have L2 := Lib.hid (L1.out.newR TRd #[.int .i64 20, .int .i64 4, .int .i64 1, .int .i64 3, .int .i64 2, .int .i64 1, .int .i64 0, .int .i64 1, .int .i64 1, .int .i64 0, .int .i64 0, .int .i64 0, .bool false, .slice p 0 c, .pointer none])
  obtain ⟨y, hn⟩ : ∃ y, W1.heap.size = y := ⟨_, rfl⟩
  rw [hn] at L2
  first | rw [hn] | skip
  clear hn
  obtain ⟨W2, hW⟩ : ∃ W', W1.alloc (.cells #[.int .i64 20, .int .i64 4, .int .i64 1, .int .i64 3, .int .i64 2, .int .i64 1, .int .i64 0, .int .i64 1, .int .i64 1, .int .i64 0, .int .i64 0, .int .i64 0, .bool false, .slice p 0 c, .pointer none] TRd) = W' := ⟨_, rfl⟩
  rw [hW] at L2
  first | rw [hW] | skip
  clear hW
  have L2 : Hid (Lo w0 lo hi b rb hq A B (X ++ [rd .i64 (.slice p 0 c) [], bx gc TC #[.int .i64 20, .int .i64 4, .int .i64 1, .int .i64 3, .int .i64 2, .int .i64 1, .int .i64 0, .int .i64 1, .int .i64 1, .int .i64 0, .int .i64 0, .int .i64 0, .bool false], bx y TRd #[.int .i64 20, .int .i64 4, .int .i64 1, .int .i64 3, .int .i64 2, .int .i64 1, .int .i64 0, .int .i64 1, .int .i64 1, .int .i64 0, .int .i64 0, .int .i64 0, .bool false, .slice p 0 c, .pointer none]]) W2) := L2
  clear L1 c1_1_0 c1_1_1 c1_1_2 c1_1_3 c1_1_4 c1_1_5 c1_1_6 c1_1_7 c1_1_8 c1_1_9 c1_1_10 c1_1_11 c1_1_12
  have LB : Hid (Lo w0 lo hi b rb hq A B (X ++ [bx y TRd #[.int .i64 20, .int .i64 4, .int .i64 1, .int .i64 3, .int .i64 2, .int .i64 1, .int .i64 0, .int .i64 1, .int .i64 1, .int .i64 0, .int .i64 0, .int .i64 0, .bool false, .slice p 0 c, .pointer none], rd .i64 (.slice p 0 c) []]) W2) := Lib.hid (Lo.sub (L2.out.perm (List.Perm.append_left X (nd_perm _ _ _))) (nd_sub X _ _ _))
  clear L2
  have hbg := qd_begin0 LB.out
  go_wp2_with (go_at_call 99; (with_reducible refine hbg.mono ?_); rintro e w9 ⟨rfl, hL⟩)
  go_ret
  exact ⟨_, rfl, hL⟩

theorem qd_new1 {w0 w : World} {lo hi b rb : Nat} {A B : Int → List Int} {X : List Ob} {gl ol n c bk : Nat} {rest : List Int} (n1 : 1 ≤ n) (hb6 : bk < 6) (h : Lo w0 lo hi b rb hq A B (X ++ [rd .i64 (.slice (some ⟨gl, ol, none⟩) n c) ((bk : Int) :: rest)]) w) : Calls Try.prog 56 #[.agg #[.int .i64 20, .int .i64 4, .int .i64 1, .int .i64 3, .int .i64 2, .int .i64 1, .int .i64 0, .int .i64 1, .int .i64 1, .int .i64 0, .int .i64 0, .int .i64 0, .bool false], .slice (some ⟨gl, ol, none⟩) n c] w fun e w' => ∃ y gq, e = .returned (.pointer (some ⟨y, 0, none⟩)) ∧ Lo w0 lo hi b rb hq A B (X ++ [bx y TRd #[.int .i64 20, .int .i64 4, .int .i64 1, .int .i64 3, .int .i64 2, .int .i64 1, .int .i64 0, .int .i64 1, .int .i64 1, .int .i64 0, .int .i64 0, .int .i64 0, .bool false, .slice (some ⟨gl, ol, none⟩) n c, .pointer (some ⟨gq, 0, none⟩)], rd .i64 (.slice (some ⟨gl, ol, none⟩) n c) ((bk : Int) :: rest), bx gq TRp #[.int .i64 (cl bk : Int), .int .i64 bk, .int .i64 0, .int .u64 0]]) w' := by
  have L0 := Lib.hid h
  clear h
  go_enter Try.func56, Try.ntmps56
  go_upto_region 1 with (fail)
  have L1 := Lib.hid (L0.out.newR TC #[.int .i64 20, .int .i64 4, .int .i64 1, .int .i64 3, .int .i64 2, .int .i64 1, .int .i64 0, .int .i64 1, .int .i64 1, .int .i64 0, .int .i64 0, .int .i64 0, .bool false])
  obtain ⟨gc, hn⟩ : ∃ gc, w.heap.size = gc := ⟨_, rfl⟩
  rw [hn] at L1
  first | rw [hn] | skip
  clear hn
  obtain ⟨W1, hW⟩ : ∃ W', w.alloc (.cells #[.int .i64 20, .int .i64 4, .int .i64 1, .int .i64 3, .int .i64 2, .int .i64 1, .int .i64 0, .int .i64 1, .int .i64 1, .int .i64 0, .int .i64 0, .int .i64 0, .bool false] TC) = W' := ⟨_, rfl⟩
  rw [hW] at L1
  first | rw [hW] | skip
  clear hW
  have L1 : Hid (Lo w0 lo hi b rb hq A B (X ++ [rd .i64 (.slice (some ⟨gl, ol, none⟩) n c) ((bk : Int) :: rest), bx gc TC #[.int .i64 20, .int .i64 4, .int .i64 1, .int .i64 3, .int .i64 2, .int .i64 1, .int .i64 0, .int .i64 1, .int .i64 1, .int .i64 0, .int .i64 0, .int .i64 0, .bool false]]) W1) := L1
  clear L0
  have c1_1_0 : W1.cell? ⟨gc, 0, none⟩ = some (.int .i64 20) := L1.out.cR 1 0 rfl rfl
  have c1_1_1 : W1.cell? ⟨gc, 1, none⟩ = some (.int .i64 4) := L1.out.cR 1 1 rfl rfl
  have c1_1_2 : W1.cell? ⟨gc, 2, none⟩ = some (.int .i64 1) := L1.out.cR 1 2 rfl rfl
  have c1_1_3 : W1.cell? ⟨gc, 3, none⟩ = some (.int .i64 3) := L1.out.cR 1 3 rfl rfl
  have c1_1_4 : W1.cell? ⟨gc, 4, none⟩ = some (.int .i64 2) := L1.out.cR 1 4 rfl rfl
  have c1_1_5 : W1.cell? ⟨gc, 5, none⟩ = some (.int .i64 1) := L1.out.cR 1 5 rfl rfl
  have c1_1_6 : W1.cell? ⟨gc, 6, none⟩ = some (.int .i64 0) := L1.out.cR 1 6 rfl rfl
  have c1_1_7 : W1.cell? ⟨gc, 7, none⟩ = some (.int .i64 1) := L1.out.cR 1 7 rfl rfl
  have c1_1_8 : W1.cell? ⟨gc, 8, none⟩ = some (.int .i64 1) := L1.out.cR 1 8 rfl rfl
  have c1_1_9 : W1.cell? ⟨gc, 9, none⟩ = some (.int .i64 0) := L1.out.cR 1 9 rfl rfl
  have c1_1_10 : W1.cell? ⟨gc, 10, none⟩ = some (.int .i64 0) := L1.out.cR 1 10 rfl rfl
  have c1_1_11 : W1.cell? ⟨gc, 11, none⟩ = some (.int .i64 0) := L1.out.cR 1 11 rfl rfl
  have c1_1_12 : W1.cell? ⟨gc, 12, none⟩ = some (.bool false) := L1.out.cR 1 12 rfl rfl
  go_upto_region 2 with (fail)
  have L2 := Lib.hid (L1.out.newR TRd #[.int .i64 20, .int .i64 4, .int .i64 1, .int .i64 3, .int .i64 2, .int .i64 1, .int .i64 0, .int .i64 1, .int .i64 1, .int .i64 0, .int .i64 0, .int .i64 0, .bool false, .slice (some ⟨gl, ol, none⟩) n c, .pointer none])
  obtain ⟨y, hn⟩ : ∃ y, W1.heap.size = y := ⟨_, rfl⟩
  rw [hn] at L2
  first | rw [hn] | skip
  clear hn
  obtain ⟨W2, hW⟩ : ∃ W', W1.alloc (.cells #[.int .i64 20, .int .i64 4, .int .i64 1, .int .i64 3, .int .i64 2, .int .i64 1, .int .i64 0, .int .i64 1, .int .i64 1, .int .i64 0, .int .i64 0, .int .i64 0, .bool false, .slice (some ⟨gl, ol, none⟩) n c, .pointer none] TRd) = W' := ⟨_, rfl⟩
  rw [hW] at L2
  first | rw [hW] | skip
  clear hW
  have L2 : Hid (Lo w0 lo hi b rb hq A B (X ++ [rd .i64 (.slice (some ⟨gl, ol, none⟩) n c) ((bk : Int) :: rest), bx gc TC #[.int .i64 20, .int .i64 4, .int .i64 1, .int .i64 3, .int .i64 2, .int .i64 1, .int .i64 0, .int .i64 1, .int .i64 1, .int .i64 0, .int .i64 0, .int .i64 0, .bool false], bx y TRd #[.int .i64 20, .int .i64 4, .int .i64 1, .int .i64 3, .int .i64 2, .int .i64 1, .int .i64 0, .int .i64 1, .int .i64 1, .int .i64 0, .int .i64 0, .int .i64 0, .bool false, .slice (some ⟨gl, ol, none⟩) n c, .pointer none]]) W2) := L2
  clear L1 c1_1_0 c1_1_1 c1_1_2 c1_1_3 c1_1_4 c1_1_5 c1_1_6 c1_1_7 c1_1_8 c1_1_9 c1_1_10 c1_1_11 c1_1_12
  have LB : Hid (Lo w0 lo hi b rb hq A B (X ++ [bx y TRd #[.int .i64 20, .int .i64 4, .int .i64 1, .int .i64 3, .int .i64 2, .int .i64 1, .int .i64 0, .int .i64 1, .int .i64 1, .int .i64 0, .int .i64 0, .int .i64 0, .bool false, .slice (some ⟨gl, ol, none⟩) n c, .pointer none], rd .i64 (.slice (some ⟨gl, ol, none⟩) n c) ((bk : Int) :: rest)]) W2) := Lib.hid (Lo.sub (L2.out.perm (List.Perm.append_left X (nd_perm _ _ _))) (nd_sub X _ _ _))
  clear L2
  have hbg := qd_begin1 n1 hb6 LB.out
  go_wp2_with (go_at_call 99; (with_reducible refine hbg.mono ?_); rintro e w9 ⟨rfl, gq, hL⟩)
  go_ret
  exact ⟨_, gq, rfl, hL⟩

theorem qd_over {w0 w : World} {lo hi b rb : Nat} {A B : Int → List Int} {X : List Ob} {y n c : Nat} {p : Option Addr} {pv : Value} (hd : decide (n = 0) = true) (h : Lo w0 lo hi b rb hq A B (X ++ [bx y TRd #[.int .i64 20, .int .i64 4, .int .i64 1, .int .i64 3, .int .i64 2, .int .i64 1, .int .i64 0, .int .i64 1, .int .i64 1, .int .i64 0, .int .i64 0, .int .i64 0, .bool false, .slice p n c, pv]]) w) : Calls Try.prog 62 #[.pointer (some ⟨y, 0, none⟩), .pointer (some ⟨rb, 0, none⟩)] w fun e w' => e = .returned (accV 0 0 0 0 0 false) ∧ Lo w0 lo hi b rb hq A B (X ++ [bx y TRd #[.int .i64 20, .int .i64 4, .int .i64 1, .int .i64 3, .int .i64 2, .int .i64 1, .int .i64 0, .int .i64 1, .int .i64 1, .int .i64 0, .int .i64 0, .int .i64 0, .bool false, .slice p n c, pv]]) w' := by
  have L0 := Lib.hid h
  clear h
  go_enter Try.func62, Try.ntmps62
  go_upto_region 1 with (fail)
  have L1 := Lib.hid (L0.out.newR 62 #[.int .i64 0, .int .i64 0, .int .i64 0, .int .u64 0, .int .u64 0, .bool false])
  obtain ⟨gr, hn⟩ : ∃ gr, w.heap.size = gr := ⟨_, rfl⟩
  rw [hn] at L1
  first | rw [hn] | skip
  clear hn
  obtain ⟨W1, hW⟩ : ∃ W', w.alloc (.cells #[.int .i64 0, .int .i64 0, .int .i64 0, .int .u64 0, .int .u64 0, .bool false] 62) = W' := ⟨_, rfl⟩
  rw [hW] at L1
  first | rw [hW] | skip
  clear hW
  have L1 : Hid (Lo w0 lo hi b rb hq A B (X ++ [bx y TRd #[.int .i64 20, .int .i64 4, .int .i64 1, .int .i64 3, .int .i64 2, .int .i64 1, .int .i64 0, .int .i64 1, .int .i64 1, .int .i64 0, .int .i64 0, .int .i64 0, .bool false, .slice p n c, pv], bx gr 62 #[.int .i64 0, .int .i64 0, .int .i64 0, .int .u64 0, .int .u64 0, .bool false]]) W1) := L1
  clear L0
  have hdn := qd_done (L1.out.memR 0 rfl) hd
  go_upto_region 2 with ((go_at_call 59; (with_reducible refine hdn.mono ?_); rintro e w9 ⟨rfl, rfl⟩))
  clear hdn
  have c1_1_0 : W1.cell? ⟨gr, 0, none⟩ = some (.int .i64 0) := L1.out.cR 1 0 rfl rfl
  have z1_1_0 : W1.frozen? ⟨gr, 0, none⟩ = false := L1.out.zR 1 0 rfl
  have c1_1_1 : W1.cell? ⟨gr, 1, none⟩ = some (.int .i64 0) := L1.out.cR 1 1 rfl rfl
  have z1_1_1 : W1.frozen? ⟨gr, 1, none⟩ = false := L1.out.zR 1 1 rfl
  have c1_1_2 : W1.cell? ⟨gr, 2, none⟩ = some (.int .i64 0) := L1.out.cR 1 2 rfl rfl
  have z1_1_2 : W1.frozen? ⟨gr, 2, none⟩ = false := L1.out.zR 1 2 rfl
  have c1_1_3 : W1.cell? ⟨gr, 3, none⟩ = some (.int .u64 0) := L1.out.cR 1 3 rfl rfl
  have z1_1_3 : W1.frozen? ⟨gr, 3, none⟩ = false := L1.out.zR 1 3 rfl
  have c1_1_4 : W1.cell? ⟨gr, 4, none⟩ = some (.int .u64 0) := L1.out.cR 1 4 rfl rfl
  have z1_1_4 : W1.frozen? ⟨gr, 4, none⟩ = false := L1.out.zR 1 4 rfl
  have c1_1_5 : W1.cell? ⟨gr, 5, none⟩ = some (.bool false) := L1.out.cR 1 5 rfl rfl
  have z1_1_5 : W1.frozen? ⟨gr, 5, none⟩ = false := L1.out.zR 1 5 rfl
  go_wp2
  have L2 : Hid (Lo w0 lo hi b rb hq A B (X ++ [bx y TRd #[.int .i64 20, .int .i64 4, .int .i64 1, .int .i64 3, .int .i64 2, .int .i64 1, .int .i64 0, .int .i64 1, .int .i64 1, .int .i64 0, .int .i64 0, .int .i64 0, .bool false, .slice p n c, pv], bx gr 62 #[.int .i64 0, .int .i64 0, .int .i64 0, .int .u64 0, .int .u64 0, .bool false]]) (((((((W1.setCell ⟨gr, 0, none⟩ (.int .i64 0)).setCell ⟨gr, 1, none⟩ (.int .i64 0)).setCell ⟨gr, 2, none⟩ (.int .i64 0)).setCell ⟨gr, 3, none⟩ (.int .u64 0)).setCell ⟨gr, 4, none⟩ (.int .u64 0)).setCell ⟨gr, 5, none⟩ (.bool false)))) := Lib.hid (L1.out.sixR 1 rfl (.int .i64 0) (.int .i64 0) (.int .i64 0) (.int .u64 0) (.int .u64 0) (.bool false))
  obtain ⟨V, hV⟩ : ∃ V, ((((((W1.setCell ⟨gr, 0, none⟩ (.int .i64 0)).setCell ⟨gr, 1, none⟩ (.int .i64 0)).setCell ⟨gr, 2, none⟩ (.int .i64 0)).setCell ⟨gr, 3, none⟩ (.int .u64 0)).setCell ⟨gr, 4, none⟩ (.int .u64 0)).setCell ⟨gr, 5, none⟩ (.bool false)) = V := ⟨_, rfl⟩
  rw [hV] at L2 ⊢
  clear hV
  have hF : Lo w0 lo hi b rb hq A B (X ++ [bx y TRd #[.int .i64 20, .int .i64 4, .int .i64 1, .int .i64 3, .int .i64 2, .int .i64 1, .int .i64 0, .int .i64 1, .int .i64 1, .int .i64 0, .int .i64 0, .int .i64 0, .bool false, .slice p n c, pv]]) V := Lo.dropR (rs2 := [bx gr 62 #[.int .i64 0, .int .i64 0, .int .i64 0, .int .u64 0, .int .u64 0, .bool false]]) L2.out
  refine bodyPost_ret (v := .agg #[.int .i64 0, .int .i64 0, .int .i64 0, .int .u64 0, .int .u64 0, .bool false]) (results_cell_row rfl _ _ gr 62 #[.int .i64 0, .int .i64 0, .int .i64 0, .int .u64 0, .int .u64 0, .bool false] (0, 0) _ (by simp) (L2.out.memR 1 rfl) Try.underlying62 rfl (by kernel_rfl)) rfl ?_
  exact ⟨rfl, hF⟩

theorem qd_go {w0 w : World} {lo hi b rb : Nat} {A B : Int → List Int} {X : List Ob} {y g0 gl ol n c bk st : Nat} {x : Int} {t : List Nat} {B' : Int → List Int} {k1 k2 k3 k4 k5 : Int} {d : Bool} (nc : n ≤ c) (hdk : Dk B (bk :: t) st x) (hac : Hid (dC B (bk :: t) st x = (k1, k2, k3, k4, k5, d))) (hA : Hid (dA B (bk :: t) st x = B')) {st1 x1 : Int} (hs : Hid ((st : Int) + 1 = st1)) (hx : Hid (pX B bk st x = x1)) (hst : st < 2) (n1 : 1 ≤ n) {rest : List Int} (h : Lo w0 lo hi b rb hq A B (X ++ [bx y TRd #[.int .i64 20, .int .i64 4, .int .i64 1, .int .i64 3, .int .i64 2, .int .i64 1, .int .i64 0, .int .i64 1, .int .i64 1, .int .i64 0, .int .i64 0, .int .i64 0, .bool false, .slice (some ⟨gl, ol, none⟩) n c, .pointer (some ⟨g0, 0, none⟩)], rd .i64 (.slice (some ⟨gl, ol, none⟩) n c) ((bk : Int) :: rest), bx g0 TRp #[.int .i64 (cl bk : Int), .int .i64 bk, .int .i64 st, .int .u64 x]]) w) : Calls Try.prog 62 #[.pointer (some ⟨y, 0, none⟩), .pointer (some ⟨rb, 0, none⟩)] w fun e w' => e = .returned (accV k1 k2 k3 k4 k5 d) ∧ Lo w0 lo hi b rb hq A B' (X ++ [bx y TRd #[.int .i64 20, .int .i64 4, .int .i64 1, .int .i64 3, .int .i64 2, .int .i64 1, .int .i64 0, .int .i64 1, .int .i64 1, .int .i64 0, .int .i64 0, .int .i64 0, .bool false, .slice (some ⟨gl, ol, none⟩) n c, .pointer (some ⟨g0, 0, none⟩)], rd .i64 (.slice (some ⟨gl, ol, none⟩) n c) ((bk : Int) :: rest), bx g0 TRp #[.int .i64 (cl bk : Int), .int .i64 bk, .int .i64 st1, .int .u64 x1]]) w' := by
  have L0 := Lib.hid h
  clear h
  have hnI : (0 : Int) < (n : Int) := by omega
  have hnN : 0 < n := by omega
  have hd : decide (n = 0) = false := by simp; omega
  go_enter Try.func62, Try.ntmps62
  go_upto_region 1 with (fail)
  have L1 := Lib.hid (L0.out.newR 62 #[.int .i64 0, .int .i64 0, .int .i64 0, .int .u64 0, .int .u64 0, .bool false])
  obtain ⟨gr, hn⟩ : ∃ gr, w.heap.size = gr := ⟨_, rfl⟩
  rw [hn] at L1
  first | rw [hn] | skip
  clear hn
  obtain ⟨W1, hW⟩ : ∃ W', w.alloc (.cells #[.int .i64 0, .int .i64 0, .int .i64 0, .int .u64 0, .int .u64 0, .bool false] 62) = W' := ⟨_, rfl⟩
  rw [hW] at L1
  first | rw [hW] | skip
  clear hW
  have L1 : Hid (Lo w0 lo hi b rb hq A B (X ++ [bx y TRd #[.int .i64 20, .int .i64 4, .int .i64 1, .int .i64 3, .int .i64 2, .int .i64 1, .int .i64 0, .int .i64 1, .int .i64 1, .int .i64 0, .int .i64 0, .int .i64 0, .bool false, .slice (some ⟨gl, ol, none⟩) n c, .pointer (some ⟨g0, 0, none⟩)], rd .i64 (.slice (some ⟨gl, ol, none⟩) n c) ((bk : Int) :: rest), bx g0 TRp #[.int .i64 (cl bk : Int), .int .i64 bk, .int .i64 st, .int .u64 x], bx gr 62 #[.int .i64 0, .int .i64 0, .int .i64 0, .int .u64 0, .int .u64 0, .bool false]]) W1) := L1
  clear L0
  have hdn := qd_done (L1.out.memR 0 rfl) hd
  go_upto_region 3 with ((go_at_call 59; (with_reducible refine hdn.mono ?_); rintro e w9 ⟨rfl, rfl⟩))
  clear hdn
  have c1_0_14 : W1.cell? ⟨y, 14, none⟩ = some (.pointer (some ⟨g0, 0, none⟩)) := L1.out.cR 0 14 rfl rfl
  have hc := ly_step L1.out 2 rfl hdk hac hA hs hx
  go_upto_region 4 with ((go_at_call 43; refine hc.mono ?_; rintro e w1 ⟨rfl, hL⟩))
  have L2 : Hid (Lo w0 lo hi b rb hq A B' (X ++ [bx y TRd #[.int .i64 20, .int .i64 4, .int .i64 1, .int .i64 3, .int .i64 2, .int .i64 1, .int .i64 0, .int .i64 1, .int .i64 1, .int .i64 0, .int .i64 0, .int .i64 0, .bool false, .slice (some ⟨gl, ol, none⟩) n c, .pointer (some ⟨g0, 0, none⟩)], rd .i64 (.slice (some ⟨gl, ol, none⟩) n c) ((bk : Int) :: rest), bx g0 TRp #[.int .i64 (cl bk : Int), .int .i64 bk, .int .i64 st1, .int .u64 x1], bx gr 62 #[.int .i64 0, .int .i64 0, .int .i64 0, .int .u64 0, .int .u64 0, .bool false]]) w1) := Lib.hid hL
  clear hc hL L1 c1_0_14
  have L3 := Lib.hid (L2.out.newR 62 #[.int .i64 k1, .int .i64 k2, .int .i64 k3, .int .u64 k4, .int .u64 k5, .bool d])
  obtain ⟨ga, hn⟩ : ∃ ga, w1.heap.size = ga := ⟨_, rfl⟩
  rw [hn] at L3
  first | rw [hn] | skip
  clear hn
  obtain ⟨W3, hW⟩ : ∃ W', w1.alloc (.cells #[.int .i64 k1, .int .i64 k2, .int .i64 k3, .int .u64 k4, .int .u64 k5, .bool d] 62) = W' := ⟨_, rfl⟩
  rw [hW] at L3
  first | rw [hW] | skip
  clear hW
  have L3 : Hid (Lo w0 lo hi b rb hq A B' (X ++ [bx y TRd #[.int .i64 20, .int .i64 4, .int .i64 1, .int .i64 3, .int .i64 2, .int .i64 1, .int .i64 0, .int .i64 1, .int .i64 1, .int .i64 0, .int .i64 0, .int .i64 0, .bool false, .slice (some ⟨gl, ol, none⟩) n c, .pointer (some ⟨g0, 0, none⟩)], rd .i64 (.slice (some ⟨gl, ol, none⟩) n c) ((bk : Int) :: rest), bx g0 TRp #[.int .i64 (cl bk : Int), .int .i64 bk, .int .i64 st1, .int .u64 x1], bx gr 62 #[.int .i64 0, .int .i64 0, .int .i64 0, .int .u64 0, .int .u64 0, .bool false], bx ga 62 #[.int .i64 k1, .int .i64 k2, .int .i64 k3, .int .u64 k4, .int .u64 k5, .bool d]]) W3) := L3
  clear L2
  have c3_0_14 : W3.cell? ⟨y, 14, none⟩ = some (.pointer (some ⟨g0, 0, none⟩)) := L3.out.cR 0 14 rfl rfl
  have c3_2_2 : W3.cell? ⟨g0, 2, none⟩ = some (.int .i64 st1) := L3.out.cR 2 2 rfl rfl
  have hs3 : (st1 == 3) = false := by have := hs.out; rw [beq_eq_false_iff_ne]; omega
  go_upto_region 7 with (fail)
  have c3_3_0 : W3.cell? ⟨gr, 0, none⟩ = some (.int .i64 0) := L3.out.cR 3 0 rfl rfl
  have z3_3_0 : W3.frozen? ⟨gr, 0, none⟩ = false := L3.out.zR 3 0 rfl
  have c3_4_0 : W3.cell? ⟨ga, 0, none⟩ = some (.int .i64 k1) := L3.out.cR 4 0 rfl rfl
  have c3_3_1 : W3.cell? ⟨gr, 1, none⟩ = some (.int .i64 0) := L3.out.cR 3 1 rfl rfl
  have z3_3_1 : W3.frozen? ⟨gr, 1, none⟩ = false := L3.out.zR 3 1 rfl
  have c3_4_1 : W3.cell? ⟨ga, 1, none⟩ = some (.int .i64 k2) := L3.out.cR 4 1 rfl rfl
  have c3_3_2 : W3.cell? ⟨gr, 2, none⟩ = some (.int .i64 0) := L3.out.cR 3 2 rfl rfl
  have z3_3_2 : W3.frozen? ⟨gr, 2, none⟩ = false := L3.out.zR 3 2 rfl
  have c3_4_2 : W3.cell? ⟨ga, 2, none⟩ = some (.int .i64 k3) := L3.out.cR 4 2 rfl rfl
  have c3_3_3 : W3.cell? ⟨gr, 3, none⟩ = some (.int .u64 0) := L3.out.cR 3 3 rfl rfl
  have z3_3_3 : W3.frozen? ⟨gr, 3, none⟩ = false := L3.out.zR 3 3 rfl
  have c3_4_3 : W3.cell? ⟨ga, 3, none⟩ = some (.int .u64 k4) := L3.out.cR 4 3 rfl rfl
  have c3_3_4 : W3.cell? ⟨gr, 4, none⟩ = some (.int .u64 0) := L3.out.cR 3 4 rfl rfl
  have z3_3_4 : W3.frozen? ⟨gr, 4, none⟩ = false := L3.out.zR 3 4 rfl
  have c3_4_4 : W3.cell? ⟨ga, 4, none⟩ = some (.int .u64 k5) := L3.out.cR 4 4 rfl rfl
  have c3_3_5 : W3.cell? ⟨gr, 5, none⟩ = some (.bool false) := L3.out.cR 3 5 rfl rfl
  have z3_3_5 : W3.frozen? ⟨gr, 5, none⟩ = false := L3.out.zR 3 5 rfl
  have c3_4_5 : W3.cell? ⟨ga, 5, none⟩ = some (.bool d) := L3.out.cR 4 5 rfl rfl
  go_wp2
  have L4 : Hid (Lo w0 lo hi b rb hq A B' (X ++ [bx y TRd #[.int .i64 20, .int .i64 4, .int .i64 1, .int .i64 3, .int .i64 2, .int .i64 1, .int .i64 0, .int .i64 1, .int .i64 1, .int .i64 0, .int .i64 0, .int .i64 0, .bool false, .slice (some ⟨gl, ol, none⟩) n c, .pointer (some ⟨g0, 0, none⟩)], rd .i64 (.slice (some ⟨gl, ol, none⟩) n c) ((bk : Int) :: rest), bx g0 TRp #[.int .i64 (cl bk : Int), .int .i64 bk, .int .i64 st1, .int .u64 x1], bx gr 62 #[.int .i64 k1, .int .i64 k2, .int .i64 k3, .int .u64 k4, .int .u64 k5, .bool d], bx ga 62 #[.int .i64 k1, .int .i64 k2, .int .i64 k3, .int .u64 k4, .int .u64 k5, .bool d]]) (((((((W3.setCell ⟨gr, 0, none⟩ (.int .i64 k1)).setCell ⟨gr, 1, none⟩ (.int .i64 k2)).setCell ⟨gr, 2, none⟩ (.int .i64 k3)).setCell ⟨gr, 3, none⟩ (.int .u64 k4)).setCell ⟨gr, 4, none⟩ (.int .u64 k5)).setCell ⟨gr, 5, none⟩ (.bool d)))) := Lib.hid (L3.out.sixR 3 rfl (.int .i64 k1) (.int .i64 k2) (.int .i64 k3) (.int .u64 k4) (.int .u64 k5) (.bool d))
  obtain ⟨V, hV⟩ : ∃ V, ((((((W3.setCell ⟨gr, 0, none⟩ (.int .i64 k1)).setCell ⟨gr, 1, none⟩ (.int .i64 k2)).setCell ⟨gr, 2, none⟩ (.int .i64 k3)).setCell ⟨gr, 3, none⟩ (.int .u64 k4)).setCell ⟨gr, 4, none⟩ (.int .u64 k5)).setCell ⟨gr, 5, none⟩ (.bool d)) = V := ⟨_, rfl⟩
  rw [hV] at L4 ⊢
  clear hV
  have hF : Lo w0 lo hi b rb hq A B' (X ++ [bx y TRd #[.int .i64 20, .int .i64 4, .int .i64 1, .int .i64 3, .int .i64 2, .int .i64 1, .int .i64 0, .int .i64 1, .int .i64 1, .int .i64 0, .int .i64 0, .int .i64 0, .bool false, .slice (some ⟨gl, ol, none⟩) n c, .pointer (some ⟨g0, 0, none⟩)], rd .i64 (.slice (some ⟨gl, ol, none⟩) n c) ((bk : Int) :: rest), bx g0 TRp #[.int .i64 (cl bk : Int), .int .i64 bk, .int .i64 st1, .int .u64 x1]]) V := Lo.dropR (rs2 := [bx gr 62 #[.int .i64 k1, .int .i64 k2, .int .i64 k3, .int .u64 k4, .int .u64 k5, .bool d], bx ga 62 #[.int .i64 k1, .int .i64 k2, .int .i64 k3, .int .u64 k4, .int .u64 k5, .bool d]]) L4.out
  refine bodyPost_ret (v := .agg #[.int .i64 k1, .int .i64 k2, .int .i64 k3, .int .u64 k4, .int .u64 k5, .bool d]) (results_cell_row rfl _ _ gr 62 #[.int .i64 k1, .int .i64 k2, .int .i64 k3, .int .u64 k4, .int .u64 k5, .bool d] (0, 0) _ (by simp) (L4.out.memR 3 rfl) Try.underlying62 rfl (by kernel_rfl)) rfl ?_
  exact ⟨rfl, hF⟩

theorem qd_last0 {w0 w : World} {lo hi b rb : Nat} {A B : Int → List Int} {X : List Ob} {y g0 gl ol c bk st : Nat} {x : Int} {t : List Nat} {B' : Int → List Int} {k1 k2 k3 k4 k5 : Int} {d : Bool} (nc : 1 ≤ c) (hdk : Dk B (bk :: t) st x) (hac : Hid (dC B (bk :: t) st x = (k1, k2, k3, k4, k5, d))) (hA : Hid (dA B (bk :: t) st x = B')) {st1 x1 : Int} (hs : Hid ((st : Int) + 1 = st1)) (hx : Hid (pX B bk st x = x1)) (hst : st = 2) (h : Lo w0 lo hi b rb hq A B (X ++ [bx y TRd #[.int .i64 20, .int .i64 4, .int .i64 1, .int .i64 3, .int .i64 2, .int .i64 1, .int .i64 0, .int .i64 1, .int .i64 1, .int .i64 0, .int .i64 0, .int .i64 0, .bool false, .slice (some ⟨gl, ol, none⟩) 1 c, .pointer (some ⟨g0, 0, none⟩)], rd .i64 (.slice (some ⟨gl, ol, none⟩) 1 c) ((bk : Int) :: []), bx g0 TRp #[.int .i64 (cl bk : Int), .int .i64 bk, .int .i64 st, .int .u64 x]]) w) : Calls Try.prog 62 #[.pointer (some ⟨y, 0, none⟩), .pointer (some ⟨rb, 0, none⟩)] w fun e w' => e = .returned (accV k1 k2 k3 k4 k5 d) ∧ ∃ v', Lo w0 lo hi b rb hq A B' (X ++ [bx y TRd #[.int .i64 20, .int .i64 4, .int .i64 1, .int .i64 3, .int .i64 2, .int .i64 1, .int .i64 0, .int .i64 1, .int .i64 1, .int .i64 0, .int .i64 0, .int .i64 0, .bool false, v', .pointer (some ⟨g0, 0, none⟩)], rd .i64 v' []]) w' := by
  have L0 := Lib.hid h
  clear h
  have hd : decide (1 = 0) = false := rfl
  obtain ⟨p1, hsl, hpb, htl⟩ := tail_run (K := .i64) Try.underlying47 (fun wx => by kernel_rfl) gl ol 1 c (by omega) nc
  have HT := Lib.hid (And.intro hpb htl)
  clear hpb htl
  simp only [Nat.sub_self] at hsl HT
  go_enter Try.func62, Try.ntmps62
  go_upto_region 1 with (fail)
  have L1 := Lib.hid (L0.out.newR 62 #[.int .i64 0, .int .i64 0, .int .i64 0, .int .u64 0, .int .u64 0, .bool false])
  obtain ⟨gr, hn⟩ : ∃ gr, w.heap.size = gr := ⟨_, rfl⟩
  rw [hn] at L1
  first | rw [hn] | skip
  clear hn
  obtain ⟨W1, hW⟩ : ∃ W', w.alloc (.cells #[.int .i64 0, .int .i64 0, .int .i64 0, .int .u64 0, .int .u64 0, .bool false] 62) = W' := ⟨_, rfl⟩
  rw [hW] at L1
  first | rw [hW] | skip
  clear hW
  have L1 : Hid (Lo w0 lo hi b rb hq A B (X ++ [bx y TRd #[.int .i64 20, .int .i64 4, .int .i64 1, .int .i64 3, .int .i64 2, .int .i64 1, .int .i64 0, .int .i64 1, .int .i64 1, .int .i64 0, .int .i64 0, .int .i64 0, .bool false, .slice (some ⟨gl, ol, none⟩) 1 c, .pointer (some ⟨g0, 0, none⟩)], rd .i64 (.slice (some ⟨gl, ol, none⟩) 1 c) ((bk : Int) :: []), bx g0 TRp #[.int .i64 (cl bk : Int), .int .i64 bk, .int .i64 st, .int .u64 x], bx gr 62 #[.int .i64 0, .int .i64 0, .int .i64 0, .int .u64 0, .int .u64 0, .bool false]]) W1) := L1
  clear L0
  have hdn := qd_done (L1.out.memR 0 rfl) hd
  go_upto_region 3 with ((go_at_call 59; (with_reducible refine hdn.mono ?_); rintro e w9 ⟨rfl, rfl⟩))
  clear hdn
  have c1_0_14 : W1.cell? ⟨y, 14, none⟩ = some (.pointer (some ⟨g0, 0, none⟩)) := L1.out.cR 0 14 rfl rfl
  have hc := ly_step L1.out 2 rfl hdk hac hA hs hx
  go_upto_region 4 with ((go_at_call 43; refine hc.mono ?_; rintro e w1 ⟨rfl, hL⟩))
  have L2 : Hid (Lo w0 lo hi b rb hq A B' (X ++ [bx y TRd #[.int .i64 20, .int .i64 4, .int .i64 1, .int .i64 3, .int .i64 2, .int .i64 1, .int .i64 0, .int .i64 1, .int .i64 1, .int .i64 0, .int .i64 0, .int .i64 0, .bool false, .slice (some ⟨gl, ol, none⟩) 1 c, .pointer (some ⟨g0, 0, none⟩)], rd .i64 (.slice (some ⟨gl, ol, none⟩) 1 c) ((bk : Int) :: []), bx g0 TRp #[.int .i64 (cl bk : Int), .int .i64 bk, .int .i64 st1, .int .u64 x1], bx gr 62 #[.int .i64 0, .int .i64 0, .int .i64 0, .int .u64 0, .int .u64 0, .bool false]]) w1) := Lib.hid hL
  clear hc hL L1 c1_0_14
  have L3 := Lib.hid (L2.out.newR 62 #[.int .i64 k1, .int .i64 k2, .int .i64 k3, .int .u64 k4, .int .u64 k5, .bool d])
  obtain ⟨ga, hn⟩ : ∃ ga, w1.heap.size = ga := ⟨_, rfl⟩
  rw [hn] at L3
  first | rw [hn] | skip
  clear hn
  obtain ⟨W3, hW⟩ : ∃ W', w1.alloc (.cells #[.int .i64 k1, .int .i64 k2, .int .i64 k3, .int .u64 k4, .int .u64 k5, .bool d] 62) = W' := ⟨_, rfl⟩
  rw [hW] at L3
  first | rw [hW] | skip
  clear hW
  have L3 : Hid (Lo w0 lo hi b rb hq A B' (X ++ [bx y TRd #[.int .i64 20, .int .i64 4, .int .i64 1, .int .i64 3, .int .i64 2, .int .i64 1, .int .i64 0, .int .i64 1, .int .i64 1, .int .i64 0, .int .i64 0, .int .i64 0, .bool false, .slice (some ⟨gl, ol, none⟩) 1 c, .pointer (some ⟨g0, 0, none⟩)], rd .i64 (.slice (some ⟨gl, ol, none⟩) 1 c) ((bk : Int) :: []), bx g0 TRp #[.int .i64 (cl bk : Int), .int .i64 bk, .int .i64 st1, .int .u64 x1], bx gr 62 #[.int .i64 0, .int .i64 0, .int .i64 0, .int .u64 0, .int .u64 0, .bool false], bx ga 62 #[.int .i64 k1, .int .i64 k2, .int .i64 k3, .int .u64 k4, .int .u64 k5, .bool d]]) W3) := L3
  clear L2
  have c3_0_14 : W3.cell? ⟨y, 14, none⟩ = some (.pointer (some ⟨g0, 0, none⟩)) := L3.out.cR 0 14 rfl rfl
  have c3_2_2 : W3.cell? ⟨g0, 2, none⟩ = some (.int .i64 st1) := L3.out.cR 2 2 rfl rfl
  have hs3 : (st1 == 3) = true := by have := hs.out; subst hst; subst this; rfl
  go_upto_region 5 with (fail)
  have c3_0_13 : W3.cell? ⟨y, 13, none⟩ = some (.slice (some ⟨gl, ol, none⟩) 1 c) := L3.out.cR 0 13 rfl rfl
  have z3_0_13 : W3.frozen? ⟨y, 13, none⟩ = false := L3.out.zR 0 13 rfl
  go_upto_region 6 with (fail)
  have L4 : Hid (Lo w0 lo hi b rb hq A B' (X ++ [bx y TRd #[.int .i64 20, .int .i64 4, .int .i64 1, .int .i64 3, .int .i64 2, .int .i64 1, .int .i64 0, .int .i64 1, .int .i64 1, .int .i64 0, .int .i64 0, .int .i64 0, .bool false, .slice p1 0 (c - 1), .pointer (some ⟨g0, 0, none⟩)], rd .i64 (.slice (some ⟨gl, ol, none⟩) 1 c) ((bk : Int) :: []), bx g0 TRp #[.int .i64 (cl bk : Int), .int .i64 bk, .int .i64 st1, .int .u64 x1], bx gr 62 #[.int .i64 0, .int .i64 0, .int .i64 0, .int .u64 0, .int .u64 0, .bool false], bx ga 62 #[.int .i64 k1, .int .i64 k2, .int .i64 k3, .int .u64 k4, .int .u64 k5, .bool d]]) (W3.setCell ⟨y, 13, none⟩ (.slice p1 0 (c - 1)))) := Lib.hid (L3.out.putR 0 13 (.slice p1 0 (c - 1)) rfl (by rfl))
  obtain ⟨W4, hW⟩ : ∃ W', W3.setCell ⟨y, 13, none⟩ (.slice p1 0 (c - 1)) = W' := ⟨_, rfl⟩
  rw [hW] at L4
  first | rw [hW] | skip
  clear hW
  clear L3 c3_0_14 c3_2_2 c3_0_13 z3_0_13
  have L5 : Hid (Lo w0 lo hi b rb hq A B' (X ++ [bx y TRd #[.int .i64 20, .int .i64 4, .int .i64 1, .int .i64 3, .int .i64 2, .int .i64 1, .int .i64 0, .int .i64 1, .int .i64 1, .int .i64 0, .int .i64 0, .int .i64 0, .bool false, .slice p1 0 (c - 1), .pointer (some ⟨g0, 0, none⟩)], rd .i64 (.slice p1 0 (c - 1)) [], bx g0 TRp #[.int .i64 (cl bk : Int), .int .i64 bk, .int .i64 st1, .int .u64 x1], bx gr 62 #[.int .i64 0, .int .i64 0, .int .i64 0, .int .u64 0, .int .u64 0, .bool false], bx ga 62 #[.int .i64 k1, .int .i64 k2, .int .i64 k3, .int .u64 k4, .int .u64 k5, .bool d]]) W4) := Lib.hid (L4.out.seeR 1 rfl (HT.out.2 _ _ _ (L4.out.isR 1 rfl)) (fun x hx => mem_blk (v := .slice (some ⟨gl, ol, none⟩) 1 c) (HT.out.1.symm.trans (blk_mem hx))))
  clear L4
  have hbg := qd_begin0 (X := X ++ [bx g0 TRp #[.int .i64 (cl bk : Int), .int .i64 bk, .int .i64 st1, .int .u64 x1], bx gr 62 #[.int .i64 0, .int .i64 0, .int .i64 0, .int .u64 0, .int .u64 0, .bool false], bx ga 62 #[.int .i64 k1, .int .i64 k2, .int .i64 k3, .int .u64 k4, .int .u64 k5, .bool d]]) (Lo.inX (rs := [bx y TRd #[.int .i64 20, .int .i64 4, .int .i64 1, .int .i64 3, .int .i64 2, .int .i64 1, .int .i64 0, .int .i64 1, .int .i64 1, .int .i64 0, .int .i64 0, .int .i64 0, .bool false, .slice p1 0 (c - 1), .pointer (some ⟨g0, 0, none⟩)], rd .i64 (.slice p1 0 (c - 1)) []]) L5.out)
  go_upto_region 7 with ((go_at_call 99; (with_reducible refine hbg.mono ?_); rintro e w9 ⟨rfl, hL⟩))
  have L6 : Hid (Lo w0 lo hi b rb hq A B' (X ++ [bx y TRd #[.int .i64 20, .int .i64 4, .int .i64 1, .int .i64 3, .int .i64 2, .int .i64 1, .int .i64 0, .int .i64 1, .int .i64 1, .int .i64 0, .int .i64 0, .int .i64 0, .bool false, .slice p1 0 (c - 1), .pointer (some ⟨g0, 0, none⟩)], rd .i64 (.slice p1 0 (c - 1)) [], bx g0 TRp #[.int .i64 (cl bk : Int), .int .i64 bk, .int .i64 st1, .int .u64 x1], bx gr 62 #[.int .i64 0, .int .i64 0, .int .i64 0, .int .u64 0, .int .u64 0, .bool false], bx ga 62 #[.int .i64 k1, .int .i64 k2, .int .i64 k3, .int .u64 k4, .int .u64 k5, .bool d]]) w9) := Lib.hid (Lo.outX (rs := [bx y TRd #[.int .i64 20, .int .i64 4, .int .i64 1, .int .i64 3, .int .i64 2, .int .i64 1, .int .i64 0, .int .i64 1, .int .i64 1, .int .i64 0, .int .i64 0, .int .i64 0, .bool false, .slice p1 0 (c - 1), .pointer (some ⟨g0, 0, none⟩)], rd .i64 (.slice p1 0 (c - 1)) []]) hL)
  clear L5 hbg hL
  have c6_3_0 : w9.cell? ⟨gr, 0, none⟩ = some (.int .i64 0) := L6.out.cR 3 0 rfl rfl
  have z6_3_0 : w9.frozen? ⟨gr, 0, none⟩ = false := L6.out.zR 3 0 rfl
  have c6_4_0 : w9.cell? ⟨ga, 0, none⟩ = some (.int .i64 k1) := L6.out.cR 4 0 rfl rfl
  have c6_3_1 : w9.cell? ⟨gr, 1, none⟩ = some (.int .i64 0) := L6.out.cR 3 1 rfl rfl
  have z6_3_1 : w9.frozen? ⟨gr, 1, none⟩ = false := L6.out.zR 3 1 rfl
  have c6_4_1 : w9.cell? ⟨ga, 1, none⟩ = some (.int .i64 k2) := L6.out.cR 4 1 rfl rfl
  have c6_3_2 : w9.cell? ⟨gr, 2, none⟩ = some (.int .i64 0) := L6.out.cR 3 2 rfl rfl
  have z6_3_2 : w9.frozen? ⟨gr, 2, none⟩ = false := L6.out.zR 3 2 rfl
  have c6_4_2 : w9.cell? ⟨ga, 2, none⟩ = some (.int .i64 k3) := L6.out.cR 4 2 rfl rfl
  have c6_3_3 : w9.cell? ⟨gr, 3, none⟩ = some (.int .u64 0) := L6.out.cR 3 3 rfl rfl
  have z6_3_3 : w9.frozen? ⟨gr, 3, none⟩ = false := L6.out.zR 3 3 rfl
  have c6_4_3 : w9.cell? ⟨ga, 3, none⟩ = some (.int .u64 k4) := L6.out.cR 4 3 rfl rfl
  have c6_3_4 : w9.cell? ⟨gr, 4, none⟩ = some (.int .u64 0) := L6.out.cR 3 4 rfl rfl
  have z6_3_4 : w9.frozen? ⟨gr, 4, none⟩ = false := L6.out.zR 3 4 rfl
  have c6_4_4 : w9.cell? ⟨ga, 4, none⟩ = some (.int .u64 k5) := L6.out.cR 4 4 rfl rfl
  have c6_3_5 : w9.cell? ⟨gr, 5, none⟩ = some (.bool false) := L6.out.cR 3 5 rfl rfl
  have z6_3_5 : w9.frozen? ⟨gr, 5, none⟩ = false := L6.out.zR 3 5 rfl
  have c6_4_5 : w9.cell? ⟨ga, 5, none⟩ = some (.bool d) := L6.out.cR 4 5 rfl rfl
  go_wp2
  have L7 : Hid (Lo w0 lo hi b rb hq A B' (X ++ [bx y TRd #[.int .i64 20, .int .i64 4, .int .i64 1, .int .i64 3, .int .i64 2, .int .i64 1, .int .i64 0, .int .i64 1, .int .i64 1, .int .i64 0, .int .i64 0, .int .i64 0, .bool false, .slice p1 0 (c - 1), .pointer (some ⟨g0, 0, none⟩)], rd .i64 (.slice p1 0 (c - 1)) [], bx g0 TRp #[.int .i64 (cl bk : Int), .int .i64 bk, .int .i64 st1, .int .u64 x1], bx gr 62 #[.int .i64 k1, .int .i64 k2, .int .i64 k3, .int .u64 k4, .int .u64 k5, .bool d], bx ga 62 #[.int .i64 k1, .int .i64 k2, .int .i64 k3, .int .u64 k4, .int .u64 k5, .bool d]]) (((((((w9.setCell ⟨gr, 0, none⟩ (.int .i64 k1)).setCell ⟨gr, 1, none⟩ (.int .i64 k2)).setCell ⟨gr, 2, none⟩ (.int .i64 k3)).setCell ⟨gr, 3, none⟩ (.int .u64 k4)).setCell ⟨gr, 4, none⟩ (.int .u64 k5)).setCell ⟨gr, 5, none⟩ (.bool d)))) := Lib.hid (L6.out.sixR 3 rfl (.int .i64 k1) (.int .i64 k2) (.int .i64 k3) (.int .u64 k4) (.int .u64 k5) (.bool d))
  obtain ⟨V, hV⟩ : ∃ V, ((((((w9.setCell ⟨gr, 0, none⟩ (.int .i64 k1)).setCell ⟨gr, 1, none⟩ (.int .i64 k2)).setCell ⟨gr, 2, none⟩ (.int .i64 k3)).setCell ⟨gr, 3, none⟩ (.int .u64 k4)).setCell ⟨gr, 4, none⟩ (.int .u64 k5)).setCell ⟨gr, 5, none⟩ (.bool d)) = V := ⟨_, rfl⟩
  rw [hV] at L7 ⊢
  clear hV
  have hF : Lo w0 lo hi b rb hq A B' (X ++ [bx y TRd #[.int .i64 20, .int .i64 4, .int .i64 1, .int .i64 3, .int .i64 2, .int .i64 1, .int .i64 0, .int .i64 1, .int .i64 1, .int .i64 0, .int .i64 0, .int .i64 0, .bool false, .slice p1 0 (c - 1), .pointer (some ⟨g0, 0, none⟩)], rd .i64 (.slice p1 0 (c - 1)) []]) V := Lo.dropR (rs2 := [bx g0 TRp #[.int .i64 (cl bk : Int), .int .i64 bk, .int .i64 st1, .int .u64 x1], bx gr 62 #[.int .i64 k1, .int .i64 k2, .int .i64 k3, .int .u64 k4, .int .u64 k5, .bool d], bx ga 62 #[.int .i64 k1, .int .i64 k2, .int .i64 k3, .int .u64 k4, .int .u64 k5, .bool d]]) L7.out
  refine bodyPost_ret (v := .agg #[.int .i64 k1, .int .i64 k2, .int .i64 k3, .int .u64 k4, .int .u64 k5, .bool d]) (results_cell_row rfl _ _ gr 62 #[.int .i64 k1, .int .i64 k2, .int .i64 k3, .int .u64 k4, .int .u64 k5, .bool d] (0, 0) _ (by simp) (L7.out.memR 3 rfl) Try.underlying62 rfl (by kernel_rfl)) rfl ?_
  exact ⟨rfl, _, hF⟩

theorem qd_last1 {w0 w : World} {lo hi b rb : Nat} {A B : Int → List Int} {X : List Ob} {y g0 gl ol n c bk st : Nat} {x : Int} {t : List Nat} {B' : Int → List Int} {k1 k2 k3 k4 k5 : Int} {d : Bool} (nc : n ≤ c) (hdk : Dk B (bk :: t) st x) (hac : Hid (dC B (bk :: t) st x = (k1, k2, k3, k4, k5, d))) (hA : Hid (dA B (bk :: t) st x = B')) {st1 x1 : Int} (hs : Hid ((st : Int) + 1 = st1)) (hx : Hid (pX B bk st x = x1)) (hst : st = 2) {b2 : Nat} (n1 : 2 ≤ n) (hb6 : b2 < 6) {rest : List Int} (h : Lo w0 lo hi b rb hq A B (X ++ [bx y TRd #[.int .i64 20, .int .i64 4, .int .i64 1, .int .i64 3, .int .i64 2, .int .i64 1, .int .i64 0, .int .i64 1, .int .i64 1, .int .i64 0, .int .i64 0, .int .i64 0, .bool false, .slice (some ⟨gl, ol, none⟩) n c, .pointer (some ⟨g0, 0, none⟩)], rd .i64 (.slice (some ⟨gl, ol, none⟩) n c) ((bk : Int) :: ((b2 : Int) :: rest)), bx g0 TRp #[.int .i64 (cl bk : Int), .int .i64 bk, .int .i64 st, .int .u64 x]]) w) : Calls Try.prog 62 #[.pointer (some ⟨y, 0, none⟩), .pointer (some ⟨rb, 0, none⟩)] w fun e w' => e = .returned (accV k1 k2 k3 k4 k5 d) ∧ ∃ (v' : Value) (gq : Nat), Lo w0 lo hi b rb hq A B' (X ++ [bx y TRd #[.int .i64 20, .int .i64 4, .int .i64 1, .int .i64 3, .int .i64 2, .int .i64 1, .int .i64 0, .int .i64 1, .int .i64 1, .int .i64 0, .int .i64 0, .int .i64 0, .bool false, v', .pointer (some ⟨gq, 0, none⟩)], rd .i64 v' ((b2 : Int) :: rest), bx gq TRp #[.int .i64 (cl b2 : Int), .int .i64 b2, .int .i64 0, .int .u64 0]]) w' := by
  have L0 := Lib.hid h
  clear h
  have hnI : (0 : Int) < (n : Int) := by omega
  have hnN : 0 < n := by omega
  have hd : decide (n = 0) = false := by simp; omega
  obtain ⟨p1, hsl, hpb, htl⟩ := tail_run (K := .i64) Try.underlying47 (fun wx => by kernel_rfl) gl ol n c (by omega) nc
  have HT := Lib.hid (And.intro hpb htl)
  clear hpb htl
  go_enter Try.func62, Try.ntmps62
  go_upto_region 1 with (fail)
  have L1 := Lib.hid (L0.out.newR 62 #[.int .i64 0, .int .i64 0, .int .i64 0, .int .u64 0, .int .u64 0, .bool false])
  obtain ⟨gr, hn⟩ : ∃ gr, w.heap.size = gr := ⟨_, rfl⟩
  rw [hn] at L1
  first | rw [hn] | skip
  clear hn
  obtain ⟨W1, hW⟩ : ∃ W', w.alloc (.cells #[.int .i64 0, .int .i64 0, .int .i64 0, .int .u64 0, .int .u64 0, .bool false] 62) = W' := ⟨_, rfl⟩
  rw [hW] at L1
  first | rw [hW] | skip
  clear hW
  have L1 : Hid (Lo w0 lo hi b rb hq A B (X ++ [bx y TRd #[.int .i64 20, .int .i64 4, .int .i64 1, .int .i64 3, .int .i64 2, .int .i64 1, .int .i64 0, .int .i64 1, .int .i64 1, .int .i64 0, .int .i64 0, .int .i64 0, .bool false, .slice (some ⟨gl, ol, none⟩) n c, .pointer (some ⟨g0, 0, none⟩)], rd .i64 (.slice (some ⟨gl, ol, none⟩) n c) ((bk : Int) :: ((b2 : Int) :: rest)), bx g0 TRp #[.int .i64 (cl bk : Int), .int .i64 bk, .int .i64 st, .int .u64 x], bx gr 62 #[.int .i64 0, .int .i64 0, .int .i64 0, .int .u64 0, .int .u64 0, .bool false]]) W1) := L1
  clear L0
  have hdn := qd_done (L1.out.memR 0 rfl) hd
  go_upto_region 3 with ((go_at_call 59; (with_reducible refine hdn.mono ?_); rintro e w9 ⟨rfl, rfl⟩))
  clear hdn
  have c1_0_14 : W1.cell? ⟨y, 14, none⟩ = some (.pointer (some ⟨g0, 0, none⟩)) := L1.out.cR 0 14 rfl rfl
  have hc := ly_step L1.out 2 rfl hdk hac hA hs hx
  go_upto_region 4 with ((go_at_call 43; refine hc.mono ?_; rintro e w1 ⟨rfl, hL⟩))
  have L2 : Hid (Lo w0 lo hi b rb hq A B' (X ++ [bx y TRd #[.int .i64 20, .int .i64 4, .int .i64 1, .int .i64 3, .int .i64 2, .int .i64 1, .int .i64 0, .int .i64 1, .int .i64 1, .int .i64 0, .int .i64 0, .int .i64 0, .bool false, .slice (some ⟨gl, ol, none⟩) n c, .pointer (some ⟨g0, 0, none⟩)], rd .i64 (.slice (some ⟨gl, ol, none⟩) n c) ((bk : Int) :: ((b2 : Int) :: rest)), bx g0 TRp #[.int .i64 (cl bk : Int), .int .i64 bk, .int .i64 st1, .int .u64 x1], bx gr 62 #[.int .i64 0, .int .i64 0, .int .i64 0, .int .u64 0, .int .u64 0, .bool false]]) w1) := Lib.hid hL
  clear hc hL L1 c1_0_14
  have L3 := Lib.hid (L2.out.newR 62 #[.int .i64 k1, .int .i64 k2, .int .i64 k3, .int .u64 k4, .int .u64 k5, .bool d])
  obtain ⟨ga, hn⟩ : ∃ ga, w1.heap.size = ga := ⟨_, rfl⟩
  rw [hn] at L3
  first | rw [hn] | skip
  clear hn
  obtain ⟨W3, hW⟩ : ∃ W', w1.alloc (.cells #[.int .i64 k1, .int .i64 k2, .int .i64 k3, .int .u64 k4, .int .u64 k5, .bool d] 62) = W' := ⟨_, rfl⟩
  rw [hW] at L3
  first | rw [hW] | skip
  clear hW
  have L3 : Hid (Lo w0 lo hi b rb hq A B' (X ++ [bx y TRd #[.int .i64 20, .int .i64 4, .int .i64 1, .int .i64 3, .int .i64 2, .int .i64 1, .int .i64 0, .int .i64 1, .int .i64 1, .int .i64 0, .int .i64 0, .int .i64 0, .bool false, .slice (some ⟨gl, ol, none⟩) n c, .pointer (some ⟨g0, 0, none⟩)], rd .i64 (.slice (some ⟨gl, ol, none⟩) n c) ((bk : Int) :: ((b2 : Int) :: rest)), bx g0 TRp #[.int .i64 (cl bk : Int), .int .i64 bk, .int .i64 st1, .int .u64 x1], bx gr 62 #[.int .i64 0, .int .i64 0, .int .i64 0, .int .u64 0, .int .u64 0, .bool false], bx ga 62 #[.int .i64 k1, .int .i64 k2, .int .i64 k3, .int .u64 k4, .int .u64 k5, .bool d]]) W3) := L3
  clear L2
  have c3_0_14 : W3.cell? ⟨y, 14, none⟩ = some (.pointer (some ⟨g0, 0, none⟩)) := L3.out.cR 0 14 rfl rfl
  have c3_2_2 : W3.cell? ⟨g0, 2, none⟩ = some (.int .i64 st1) := L3.out.cR 2 2 rfl rfl
  have hs3 : (st1 == 3) = true := by have := hs.out; subst hst; subst this; rfl
  go_upto_region 5 with (fail)
  have c3_0_13 : W3.cell? ⟨y, 13, none⟩ = some (.slice (some ⟨gl, ol, none⟩) n c) := L3.out.cR 0 13 rfl rfl
  have z3_0_13 : W3.frozen? ⟨y, 13, none⟩ = false := L3.out.zR 0 13 rfl
  go_upto_region 6 with (fail)
  have L4 : Hid (Lo w0 lo hi b rb hq A B' (X ++ [bx y TRd #[.int .i64 20, .int .i64 4, .int .i64 1, .int .i64 3, .int .i64 2, .int .i64 1, .int .i64 0, .int .i64 1, .int .i64 1, .int .i64 0, .int .i64 0, .int .i64 0, .bool false, .slice p1 (n - 1) (c - 1), .pointer (some ⟨g0, 0, none⟩)], rd .i64 (.slice (some ⟨gl, ol, none⟩) n c) ((bk : Int) :: ((b2 : Int) :: rest)), bx g0 TRp #[.int .i64 (cl bk : Int), .int .i64 bk, .int .i64 st1, .int .u64 x1], bx gr 62 #[.int .i64 0, .int .i64 0, .int .i64 0, .int .u64 0, .int .u64 0, .bool false], bx ga 62 #[.int .i64 k1, .int .i64 k2, .int .i64 k3, .int .u64 k4, .int .u64 k5, .bool d]]) (W3.setCell ⟨y, 13, none⟩ (.slice p1 (n - 1) (c - 1)))) := Lib.hid (L3.out.putR 0 13 (.slice p1 (n - 1) (c - 1)) rfl (by rfl))
  obtain ⟨W4, hW⟩ : ∃ W', W3.setCell ⟨y, 13, none⟩ (.slice p1 (n - 1) (c - 1)) = W' := ⟨_, rfl⟩
  rw [hW] at L4
  first | rw [hW] | skip
  clear hW
  clear L3 c3_0_14 c3_2_2 c3_0_13 z3_0_13
  have L5 : Hid (Lo w0 lo hi b rb hq A B' (X ++ [bx y TRd #[.int .i64 20, .int .i64 4, .int .i64 1, .int .i64 3, .int .i64 2, .int .i64 1, .int .i64 0, .int .i64 1, .int .i64 1, .int .i64 0, .int .i64 0, .int .i64 0, .bool false, .slice p1 (n - 1) (c - 1), .pointer (some ⟨g0, 0, none⟩)], rd .i64 (.slice p1 (n - 1) (c - 1)) ((b2 : Int) :: rest), bx g0 TRp #[.int .i64 (cl bk : Int), .int .i64 bk, .int .i64 st1, .int .u64 x1], bx gr 62 #[.int .i64 0, .int .i64 0, .int .i64 0, .int .u64 0, .int .u64 0, .bool false], bx ga 62 #[.int .i64 k1, .int .i64 k2, .int .i64 k3, .int .u64 k4, .int .u64 k5, .bool d]]) W4) := Lib.hid (L4.out.seeR 1 rfl (HT.out.2 _ _ _ (L4.out.isR 1 rfl)) (fun x hx => mem_blk (v := .slice (some ⟨gl, ol, none⟩) n c) (HT.out.1.symm.trans (blk_mem hx))))
  clear L4
  have hsl2 : ∃ gl2 ol2, p1 = some ⟨gl2, ol2, none⟩ := by
    have h9 : RdR .i64 W4 (.slice p1 (n - 1) (c - 1)) ((b2 : Int) :: rest) := L5.out.isR 1 rfl
    obtain ⟨g9, o9, c9, e9, _⟩ := h9.cell (by simp)
    injection e9 with e9
    exact ⟨g9, o9, e9⟩
  obtain ⟨gl2, ol2, rfl⟩ := hsl2
  have hbg := qd_begin1 (X := X ++ [bx g0 TRp #[.int .i64 (cl bk : Int), .int .i64 bk, .int .i64 st1, .int .u64 x1], bx gr 62 #[.int .i64 0, .int .i64 0, .int .i64 0, .int .u64 0, .int .u64 0, .bool false], bx ga 62 #[.int .i64 k1, .int .i64 k2, .int .i64 k3, .int .u64 k4, .int .u64 k5, .bool d]]) (n := n - 1) (c := c - 1) (by omega) hb6 (Lo.inX (rs := [bx y TRd #[.int .i64 20, .int .i64 4, .int .i64 1, .int .i64 3, .int .i64 2, .int .i64 1, .int .i64 0, .int .i64 1, .int .i64 1, .int .i64 0, .int .i64 0, .int .i64 0, .bool false, .slice (some ⟨gl2, ol2, none⟩) (n - 1) (c - 1), .pointer (some ⟨g0, 0, none⟩)], rd .i64 (.slice (some ⟨gl2, ol2, none⟩) (n - 1) (c - 1)) ((b2 : Int) :: rest)]) L5.out)
  go_upto_region 7 with ((go_at_call 99; (with_reducible refine hbg.mono ?_); rintro e w9 ⟨rfl, gq, hL⟩))
  have L6 : Hid (Lo w0 lo hi b rb hq A B' (X ++ [bx y TRd #[.int .i64 20, .int .i64 4, .int .i64 1, .int .i64 3, .int .i64 2, .int .i64 1, .int .i64 0, .int .i64 1, .int .i64 1, .int .i64 0, .int .i64 0, .int .i64 0, .bool false, .slice (some ⟨gl2, ol2, none⟩) (n - 1) (c - 1), .pointer (some ⟨gq, 0, none⟩)], rd .i64 (.slice (some ⟨gl2, ol2, none⟩) (n - 1) (c - 1)) ((b2 : Int) :: rest), bx gq TRp #[.int .i64 (cl b2 : Int), .int .i64 b2, .int .i64 0, .int .u64 0], bx g0 TRp #[.int .i64 (cl bk : Int), .int .i64 bk, .int .i64 st1, .int .u64 x1], bx gr 62 #[.int .i64 0, .int .i64 0, .int .i64 0, .int .u64 0, .int .u64 0, .bool false], bx ga 62 #[.int .i64 k1, .int .i64 k2, .int .i64 k3, .int .u64 k4, .int .u64 k5, .bool d]]) w9) := Lib.hid (Lo.outX (rs := [bx y TRd #[.int .i64 20, .int .i64 4, .int .i64 1, .int .i64 3, .int .i64 2, .int .i64 1, .int .i64 0, .int .i64 1, .int .i64 1, .int .i64 0, .int .i64 0, .int .i64 0, .bool false, .slice (some ⟨gl2, ol2, none⟩) (n - 1) (c - 1), .pointer (some ⟨gq, 0, none⟩)], rd .i64 (.slice (some ⟨gl2, ol2, none⟩) (n - 1) (c - 1)) ((b2 : Int) :: rest), bx gq TRp #[.int .i64 (cl b2 : Int), .int .i64 b2, .int .i64 0, .int .u64 0]]) hL)
  clear L5 hbg hL
  have c6_4_0 : w9.cell? ⟨gr, 0, none⟩ = some (.int .i64 0) := L6.out.cR 4 0 rfl rfl
  have z6_4_0 : w9.frozen? ⟨gr, 0, none⟩ = false := L6.out.zR 4 0 rfl
  have c6_5_0 : w9.cell? ⟨ga, 0, none⟩ = some (.int .i64 k1) := L6.out.cR 5 0 rfl rfl
  have c6_4_1 : w9.cell? ⟨gr, 1, none⟩ = some (.int .i64 0) := L6.out.cR 4 1 rfl rfl
  have z6_4_1 : w9.frozen? ⟨gr, 1, none⟩ = false := L6.out.zR 4 1 rfl
  have c6_5_1 : w9.cell? ⟨ga, 1, none⟩ = some (.int .i64 k2) := L6.out.cR 5 1 rfl rfl
  have c6_4_2 : w9.cell? ⟨gr, 2, none⟩ = some (.int .i64 0) := L6.out.cR 4 2 rfl rfl
  have z6_4_2 : w9.frozen? ⟨gr, 2, none⟩ = false := L6.out.zR 4 2 rfl
  have c6_5_2 : w9.cell? ⟨ga, 2, none⟩ = some (.int .i64 k3) := L6.out.cR 5 2 rfl rfl
  have c6_4_3 : w9.cell? ⟨gr, 3, none⟩ = some (.int .u64 0) := L6.out.cR 4 3 rfl rfl
  have z6_4_3 : w9.frozen? ⟨gr, 3, none⟩ = false := L6.out.zR 4 3 rfl
  have c6_5_3 : w9.cell? ⟨ga, 3, none⟩ = some (.int .u64 k4) := L6.out.cR 5 3 rfl rfl
  have c6_4_4 : w9.cell? ⟨gr, 4, none⟩ = some (.int .u64 0) := L6.out.cR 4 4 rfl rfl
  have z6_4_4 : w9.frozen? ⟨gr, 4, none⟩ = false := L6.out.zR 4 4 rfl
  have c6_5_4 : w9.cell? ⟨ga, 4, none⟩ = some (.int .u64 k5) := L6.out.cR 5 4 rfl rfl
  have c6_4_5 : w9.cell? ⟨gr, 5, none⟩ = some (.bool false) := L6.out.cR 4 5 rfl rfl
  have z6_4_5 : w9.frozen? ⟨gr, 5, none⟩ = false := L6.out.zR 4 5 rfl
  have c6_5_5 : w9.cell? ⟨ga, 5, none⟩ = some (.bool d) := L6.out.cR 5 5 rfl rfl
  go_wp2
  have L7 : Hid (Lo w0 lo hi b rb hq A B' (X ++ [bx y TRd #[.int .i64 20, .int .i64 4, .int .i64 1, .int .i64 3, .int .i64 2, .int .i64 1, .int .i64 0, .int .i64 1, .int .i64 1, .int .i64 0, .int .i64 0, .int .i64 0, .bool false, .slice (some ⟨gl2, ol2, none⟩) (n - 1) (c - 1), .pointer (some ⟨gq, 0, none⟩)], rd .i64 (.slice (some ⟨gl2, ol2, none⟩) (n - 1) (c - 1)) ((b2 : Int) :: rest), bx gq TRp #[.int .i64 (cl b2 : Int), .int .i64 b2, .int .i64 0, .int .u64 0], bx g0 TRp #[.int .i64 (cl bk : Int), .int .i64 bk, .int .i64 st1, .int .u64 x1], bx gr 62 #[.int .i64 k1, .int .i64 k2, .int .i64 k3, .int .u64 k4, .int .u64 k5, .bool d], bx ga 62 #[.int .i64 k1, .int .i64 k2, .int .i64 k3, .int .u64 k4, .int .u64 k5, .bool d]]) (((((((w9.setCell ⟨gr, 0, none⟩ (.int .i64 k1)).setCell ⟨gr, 1, none⟩ (.int .i64 k2)).setCell ⟨gr, 2, none⟩ (.int .i64 k3)).setCell ⟨gr, 3, none⟩ (.int .u64 k4)).setCell ⟨gr, 4, none⟩ (.int .u64 k5)).setCell ⟨gr, 5, none⟩ (.bool d)))) := Lib.hid (L6.out.sixR 4 rfl (.int .i64 k1) (.int .i64 k2) (.int .i64 k3) (.int .u64 k4) (.int .u64 k5) (.bool d))
  obtain ⟨V, hV⟩ : ∃ V, ((((((w9.setCell ⟨gr, 0, none⟩ (.int .i64 k1)).setCell ⟨gr, 1, none⟩ (.int .i64 k2)).setCell ⟨gr, 2, none⟩ (.int .i64 k3)).setCell ⟨gr, 3, none⟩ (.int .u64 k4)).setCell ⟨gr, 4, none⟩ (.int .u64 k5)).setCell ⟨gr, 5, none⟩ (.bool d)) = V := ⟨_, rfl⟩
  rw [hV] at L7 ⊢
  clear hV
  have hF : Lo w0 lo hi b rb hq A B' (X ++ [bx y TRd #[.int .i64 20, .int .i64 4, .int .i64 1, .int .i64 3, .int .i64 2, .int .i64 1, .int .i64 0, .int .i64 1, .int .i64 1, .int .i64 0, .int .i64 0, .int .i64 0, .bool false, .slice (some ⟨gl2, ol2, none⟩) (n - 1) (c - 1), .pointer (some ⟨gq, 0, none⟩)], rd .i64 (.slice (some ⟨gl2, ol2, none⟩) (n - 1) (c - 1)) ((b2 : Int) :: rest), bx gq TRp #[.int .i64 (cl b2 : Int), .int .i64 b2, .int .i64 0, .int .u64 0]]) V := Lo.dropR (rs2 := [bx g0 TRp #[.int .i64 (cl bk : Int), .int .i64 bk, .int .i64 st1, .int .u64 x1], bx gr 62 #[.int .i64 k1, .int .i64 k2, .int .i64 k3, .int .u64 k4, .int .u64 k5, .bool d], bx ga 62 #[.int .i64 k1, .int .i64 k2, .int .i64 k3, .int .u64 k4, .int .u64 k5, .bool d]]) L7.out
  refine bodyPost_ret (v := .agg #[.int .i64 k1, .int .i64 k2, .int .i64 k3, .int .u64 k4, .int .u64 k5, .bool d]) (results_cell_row rfl _ _ gr 62 #[.int .i64 k1, .int .i64 k2, .int .i64 k3, .int .u64 k4, .int .u64 k5, .bool d] (0, 0) _ (by simp) (L7.out.memR 4 rfl) Try.underlying62 rfl (by kernel_rfl)) rfl ?_
  exact ⟨rfl, _, _, hF⟩
end Go.Proofs.Ytpjbmbipkmpkhaa.LmE
