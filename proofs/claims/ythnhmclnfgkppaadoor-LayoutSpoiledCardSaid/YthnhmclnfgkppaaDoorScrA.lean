/-
  Contracts of package layout: checkPicks, CheckScript.
-/
import Derived.Test.YthnhmclnfgkppaaDoorScrP
namespace Go.Proofs.YthnhmclnfgkppaaDoor.ScrA
open Go.ChangeShapes Go.WideShapes Go.ChangeAt Go.RowKit
open PlainT BlkW LawFrame IsaE IsaF PrgS LayS LayA LayB ScrP
set_option linter.unusedVariables false
set_option maxHeartbeats 1000000
set_option maxRecDepth 100000

def pkGo (n : Int) : List Int → Nat → Int × Int
  | [], _ => (0, 0)
  | p :: r, k => if 0 ≤ p ∧ p ≤ n - 1 then pkGo n r (k + 1) else (k, 56)
def pkV (n : Int) (picks : List Int) : Int × Int := if 65536 < picks.length then (0, 56) else pkGo n picks 0
def prGo : List (List I5) → Nat → Option (Int × Int × Int)
  | [], _ => none
  | p :: r, t => if (refChk p).2 ≠ 0 then some (t, (refChk p).1, (refChk p).2) else prGo r (t + 1)
def endV (n : Int) (picks : List Int) (o : Option (Int × Int × Int)) : Int × Int × Int := match o with
  | some x => x
  | none => (0, (pkV n picks).1, (pkV n picks).2)
def csV (s : Scr) : Int × Int × Int :=
  if chkV s.q ≠ 0 then (0, 0, chkV s.q) else if s.progs.length < 1 ∨ 16 < s.progs.length then (0, 0, 54) else if (s.ni : Int) ≠ s.q.w then (0, 0, 55) else endV s.progs.length s.picks (prGo s.progs 0)
theorem drop_at {α : Type} {l : List α} {k : Nat} {x : α} (h : l[k]? = some x) : l.drop k = x :: l.drop (k + 1) := by
  obtain ⟨hk, e⟩ := List.getElem?_eq_some_iff.1 h
  rw [← e]
  exact List.drop_eq_getElem_cons hk
theorem int_at {w : World} {k : IntKind} {A : Option Addr} {n : Nat} {z : List Int} (h : Ints k w A n z) {i : Nat} (hi : i < n) : ∃ b off x, A = some ⟨b, off, none⟩ ∧ b < w.heap.size ∧ w.cell? ⟨b, off + i, none⟩ = some (.int k x) ∧ z[i]? = some x ∧ (Lit.int k x).wf = true := by
  obtain ⟨b, off, rfl, hb, hc⟩ := h.2.2 (by omega)
  have hz : z[i]? = some (z[i]'(by rw [h.1]; exact hi)) := List.getElem?_eq_getElem _
  refine ⟨b, off, _, rfl, hb, ?_, hz, h.2.1 _ (List.getElem_mem _)⟩
  rw [hc i hi, List.getD_eq_getElem?_getD, hz]
  rfl
theorem pair_eq {a b c d : Int} (h : (a, b) = (c, d)) : Ending.returned (.tuple #[.int .i64 a, .int .i64 b]) = .returned (.tuple #[.int .i64 c, .int .i64 d]) := by
  injection h with h1 h2
  rw [h1, h2]
set_option maxHeartbeats 4000000 in
theorem a_picks (A : Option Addr) (n c : Nat) (z : List Int) (np : Int) (h0 : 1 ≤ np) (h16 : np ≤ 16) (w : World) (hn : n ≤ c) (hc : c ≤ maxLen) (h : Ints .i64 w A n z) (u v : Int) (hv : pkV np z = (u, v)) :
    Calls Tryd.prog 42 #[.slice A n c, .int .i64 np] w fun e w' => e = .returned (.tuple #[.int .i64 u, .int .i64 v]) ∧ w = w' := by
  have hc2 := hc
  unfold maxLen at hc2
  have hl := h.1
  unfold pkV at hv
  rw [hl] at hv
  by_cases hg : 65536 < n
  · rw [if_pos hg] at hv
    injection hv with e1 e2
    subst e1 e2
    clear hl h
    go_enter Tryd.func42, Tryd.ntmps42
    go_wp2
    refine bodyPost_ret (results_tmp2 rfl _ _ _) rfl ?_
    exact ⟨rfl, rfl⟩
  · rw [if_neg hg] at hv
    have HV := Lib.hid (show pkGo np (z.drop 0) 0 = (u, v) from hv)
    have HI := Lib.hid h
    have HL := Lib.hid hl
    clear hl h hv
    go_enter Tryd.func42, Tryd.ntmps42
    go_wp2
    go_loop [13] (fun kv => ∃ k : Nat, k ≤ n ∧ kv = .int .i64 k ∧ Hid (pkGo np (z.drop k) k = (u, v))) (fun kv => n - (intOf kv).toNat)
    case atStart => exact ⟨0, by omega, rfl, HV⟩
    case round =>
      obtain ⟨k, hk, rfl, hgo⟩ := hrel
      clear HV
      by_cases hkn : k < n
      · obtain ⟨b, off, x, rfl, hb, hcx, hx, _⟩ := int_at HI.out hkn
        have hg2 := hgo.out
        rw [drop_at hx] at hg2
        unfold pkGo at hg2
        cases hin : inB x 0 (np - 1) with
        | true =>
          rw [if_pos (inB_iff.1 hin)] at hg2
          have HG := Lib.hid hg2
          clear hg2 hgo hx
          go_wp2_with (go_at_call 41; (with_reducible refine (a_within _ _ _ _).mono ?_); rintro e w1 ⟨rfl, rfl⟩)
          go_round
          case rel => exact ⟨k + 1, by omega, by go_num, HG⟩
          case measure => simp [intOf]; omega
        | false =>
          rw [if_neg (fun h => by rw [inB_iff.2 h] at hin; cases hin)] at hg2
          injection hg2 with e1 e2
          subst e1 e2
          clear hgo hx
          go_wp2_with (go_at_call 41; (with_reducible refine (a_within _ _ _ _).mono ?_); rintro e w1 ⟨rfl, rfl⟩)
          refine bodyPost_ret (results_tmp2 rfl _ _ _) rfl ?_
          exact ⟨rfl, rfl⟩
      · obtain rfl : k = n := by omega
        have hg2 := hgo.out
        rw [show z.drop k = [] from List.drop_eq_nil_of_le (by rw [HL.out]; exact Nat.le_refl _)] at hg2
        unfold pkGo at hg2
        injection hg2 with e1 e2
        subst e1 e2
        clear hgo
        go_wp2
        refine bodyPost_ret (results_tmp2 rfl _ _ _) rfl ?_
        exact ⟨rfl, rfl⟩
end Go.Proofs.YthnhmclnfgkppaaDoor.ScrA
