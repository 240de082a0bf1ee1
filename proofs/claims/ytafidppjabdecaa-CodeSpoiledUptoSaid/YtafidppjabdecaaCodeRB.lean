/-
  The reference's reader: signed numbers and lengths of lists.
-/
import Derived.Test.YtafidppjabdecaaCodeRA
import Derived.Test.YtafidppjabdecaaCodeF
namespace Go.Proofs.Ytafidppjabdecaa.CodeRB
open Go.ChangeShapes Go.WideShapes Go.ChangeAt Go.RowKit
open PlainT BlkW LawFrame CodeS CodeW CodeA CodeE CodeF CodeRA
set_option linter.unusedVariables false
set_option maxHeartbeats 1000000

/-- What the reference's reader leaves of a parser f: its value and the place, or the mark and zero. -/
def SIs (f : List Int → Option (Int × List Int)) (B g : Nat) (w : World) (l : List Int) (i : Nat) (bad : Bool) (v : Int) (w' : World) : Prop := ∃ (j : Nat) (bad' : Bool), i ≤ j ∧ Rq B w' g l j bad' ∧ Fr TQ B w w' ∧ ((bad' = true ∧ v = 0 ∧ (bad = true ∨ f (l.drop i) = none)) ∨ (bad' = false ∧ bad = false ∧ f (l.drop i) = some (v, l.drop j)))
theorem signed_of {B g i : Nat} {w w' : World} {l : List Int} {bad : Bool} {y x : Int} (h : QIs B g w l i bad y w') (hx : sU y = x) : SIs rS B g w l i bad x w' := by
  obtain ⟨j, bad', hij, hv, hq, hf, h3⟩ := h
  refine ⟨j, bad', hij, hq, hf, ?_⟩
  rcases h3 with ⟨hb, rfl, h4⟩ | ⟨hb, hb2, h4⟩
  · refine .inl ⟨hb, by rw [← hx]; decide, ?_⟩
    rcases h4 with h4 | h4
    · exact .inl h4
    · exact .inr (rS_none h4)
  · exact .inr ⟨hb, hb2, by rw [rS_some h4, hx]⟩
theorem r_rsigned (B g : Nat) (l : List Int) (i : Nat) (bad : Bool) (w : World) (h : Rq B w g l i bad) : Calls Try.prog 29 #[.pointer (some ⟨g, 0, none⟩)] w fun e w' => ∃ v, e = .returned (.int .i64 v) ∧ InI v ∧ SIs rS B g w l i bad v w' := by
  go_enter Try.func29, Try.ntmps29
  go_wp2_with fail
  refine (r_runsigned B g l i bad _ h).mono ?_
  rintro e w1 ⟨y, rfl, hq⟩
  have hy : InU y := hq.choose_spec.choose_spec.2.1
  have HQ := Lib.hid hq
  clear hq h
  obtain ⟨hy0, hy1⟩ := hy
  by_cases hev : y % 2 = 0
  · have e1 : (y % 2 == 0) = true := by simp; omega
    have HS := Lib.hid (show sU y = y / 2 by unfold sU; rw [if_neg (by omega)])
    go_wp2_with fail
    go_ret
    exact ⟨_, rfl, ⟨by omega, by omega⟩, signed_of HQ.out HS.out⟩
  · have e1 : (y % 2 == 0) = false := by simp; omega
    have HS := Lib.hid (show sU y = -(y / 2) - 1 by unfold sU; rw [if_pos (by omega)])
    go_wp2_with fail
    go_ret
    exact ⟨_, rfl, ⟨by omega, by omega⟩, signed_of HQ.out HS.out⟩
/-- What it leaves of a list's length, its elements of at least n bytes. -/
def LIs (n : Nat) (B g : Nat) (w : World) (l : List Int) (i : Nat) (bad : Bool) (v : Int) (w' : World) : Prop := ∃ (j : Nat) (bad' : Bool), i ≤ j ∧ 0 ≤ v ∧ v ≤ 262144 ∧ Rq B w' g l j bad' ∧ Fr TQ B w w' ∧ ((bad' = true ∧ v = 0 ∧ (bad = true ∨ rU (l.drop i) = none ∨ ∃ x r, rU (l.drop i) = some (x, r) ∧ (r.length : Int) < n * x)) ∨ (bad' = false ∧ bad = false ∧ rU (l.drop i) = some (v, l.drop j) ∧ n * v ≤ (l.drop j).length))
theorem r_length1 (B g : Nat) (l : List Int) (i : Nat) (bad : Bool) (w : World) (h : Rq B w g l i bad) : Calls Try.prog 30 #[.pointer (some ⟨g, 0, none⟩), .int .i64 1] w fun e w' => ∃ v, e = .returned (.int .i64 v) ∧ LIs 1 B g w l i bad v w' := by
  have hsg : IntKind.i64.signed = true := rfl
  go_enter Try.func30, Try.ntmps30
  go_wp2_with fail
  refine (r_runsigned B g l i bad _ h).mono ?_
  rintro e w1 ⟨y, rfl, j, bad', hij, hy, hrd, hf, h3⟩
  obtain ⟨hy0, hy1⟩ := hy
  have HRD := Lib.hid hrd
  have H3 := Lib.hid h3
  have HF := Lib.hid hf
  obtain ⟨g1, g2, g3, hj, A, n, c, h4, h5, h6, h7, h8⟩ := hrd
  have hn : l.length = n := h7.1
  subst hn
  have d0 := h4.cell 0
  have d1 := h4.cell 1
  have z2 := h4.frozen 2
  have hgl := h4.lt
  simp only [List.getElem?_toArray, List.getElem?_cons_zero, List.getElem?_cons_succ] at d0 d1
  have d2 := h4.cell 2
  simp only [List.getElem?_toArray, List.getElem?_cons_zero, List.getElem?_cons_succ] at d2
  have HL := Lib.hid (show (l.drop j).length = l.length - j by simp)
  clear h4 h7 h8 hf h3 h
  have hpos : (0 : Int) ≤ (l.length : Int) - (j : Int) := by omega
  by_cases hgt : ((l.length : Int) - (j : Int)) / 1 < y
  · go_wp2_with fail
    go_quiet (fail)
    go_wp2_with fail
    go_ret
    refine ⟨_, rfl, j, true, hij, by omega, by omega, (HRD.out.drewN _).mark true, (HRD.out.drewN _).fr (HF.out.drewN _) _, .inl ⟨rfl, rfl, ?_⟩⟩
    rcases H3.out with ⟨_, h9, h10⟩ | ⟨_, _, h10⟩
    · omega
    · exact .inr (.inr ⟨_, _, h10, by have := HL.out; omega⟩)
  · go_wp2_with fail
    go_quiet (fail)
    go_wp2_with fail
    go_ret
    refine ⟨_, rfl, j, bad', hij, by omega, by omega, HRD.out.drewN _, HF.out.drewN _, ?_⟩
    rcases H3.out with ⟨h8, h9, h10⟩ | ⟨h8, h9, h10⟩
    · refine .inl ⟨h8, h9, ?_⟩
      rcases h10 with h | h
      · exact .inl h
      · exact .inr (.inl h)
    · exact .inr ⟨h8, h9, h10, by have := HL.out; omega⟩
theorem r_length5 (B g : Nat) (l : List Int) (i : Nat) (bad : Bool) (w : World) (h : Rq B w g l i bad) : Calls Try.prog 30 #[.pointer (some ⟨g, 0, none⟩), .int .i64 5] w fun e w' => ∃ v, e = .returned (.int .i64 v) ∧ LIs 5 B g w l i bad v w' := by
  have hsg : IntKind.i64.signed = true := rfl
  go_enter Try.func30, Try.ntmps30
  go_wp2_with fail
  refine (r_runsigned B g l i bad _ h).mono ?_
  rintro e w1 ⟨y, rfl, j, bad', hij, hy, hrd, hf, h3⟩
  obtain ⟨hy0, hy1⟩ := hy
  have HRD := Lib.hid hrd
  have H3 := Lib.hid h3
  have HF := Lib.hid hf
  obtain ⟨g1, g2, g3, hj, A, n, c, h4, h5, h6, h7, h8⟩ := hrd
  have hn : l.length = n := h7.1
  subst hn
  have d0 := h4.cell 0
  have d1 := h4.cell 1
  have z2 := h4.frozen 2
  have hgl := h4.lt
  simp only [List.getElem?_toArray, List.getElem?_cons_zero, List.getElem?_cons_succ] at d0 d1
  have d2 := h4.cell 2
  simp only [List.getElem?_toArray, List.getElem?_cons_zero, List.getElem?_cons_succ] at d2
  have HL := Lib.hid (show (l.drop j).length = l.length - j by simp)
  clear h4 h7 h8 hf h3 h
  have hpos : (0 : Int) ≤ (l.length : Int) - (j : Int) := by omega
  by_cases hgt : ((l.length : Int) - (j : Int)) / 5 < y
  · go_wp2_with fail
    go_quiet (fail)
    go_wp2_with fail
    go_ret
    refine ⟨_, rfl, j, true, hij, by omega, by omega, (HRD.out.drewN _).mark true, (HRD.out.drewN _).fr (HF.out.drewN _) _, .inl ⟨rfl, rfl, ?_⟩⟩
    rcases H3.out with ⟨_, h9, h10⟩ | ⟨_, _, h10⟩
    · omega
    · exact .inr (.inr ⟨_, _, h10, by have := HL.out; omega⟩)
  · go_wp2_with fail
    go_quiet (fail)
    go_wp2_with fail
    go_ret
    refine ⟨_, rfl, j, bad', hij, by omega, by omega, HRD.out.drewN _, HF.out.drewN _, ?_⟩
    rcases H3.out with ⟨h8, h9, h10⟩ | ⟨h8, h9, h10⟩
    · refine .inl ⟨h8, h9, ?_⟩
      rcases h10 with h | h
      · exact .inl h
      · exact .inr (.inl h)
    · exact .inr ⟨h8, h9, h10, by have := HL.out; omega⟩
end Go.Proofs.Ytafidppjabdecaa.CodeRB
