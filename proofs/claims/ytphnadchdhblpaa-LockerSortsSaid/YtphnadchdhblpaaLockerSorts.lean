/-
  Proved: Sorted returns the list of the document for any numbers. No condition.
-/
import Derived.Test.YtphnadchdhblpaaRows
import Derived.WalkKit
import Derived.ProofKit
import Derived.OpenShut
import Derived.Test.YtphnadchdhblpaaFrame
import Derived.Test.YtphnadchdhblpaaLkL
import Derived.Test.YtphnadchdhblpaaSrtB
namespace Go.Proofs.Ytphnadchdhblpaa.lockerSorts
open Go.ChangeShapes Go.WideShapes Go.ChangeAt Go.RowKit
open LawFrame
open Go.ChangeMaps (open_string)
set_option linter.unusedVariables false

theorem own : ownKnob Try.prog.godebug = none := by kernel_rfl
theorem laidOut : laidOutB Try.prog = true := by kernel_rfl
theorem cells3 : Try.prog.cellsOf 3 = 1 := by kernel_rfl

open LawFrame PlainT BlkW LayS LayH CelS CelM CelV CelN LabD RsA ObjA LkP SrtA SrtB LkL
set_option maxHeartbeats 4000000
set_option maxRecDepth 100000
theorem rds_ints {w : World} {A : Option Addr} {n c : Nat} {z : List Int} (h : Ints .i64 w A n z) (hl : n ≤ c) (hm : c ≤ maxLen) : RdS .i64 w (.slice A n c) z := by
  obtain ⟨h1, _, h3⟩ := h
  refine ⟨A, c, by rw [h1], by omega, hm, fun j x hj => ?_⟩
  have hlj := (List.getElem?_eq_some_iff.1 hj).1
  obtain ⟨b, off, rfl, _, hc⟩ := h3 (by omega)
  refine ⟨b, off, rfl, ?_⟩
  rw [hc j (by omega), List.getD_eq_getElem?_getD, hj]
  rfl
theorem rdi_rds {w : World} {v : Value} {xs : List Int} (h : RdS .i64 w v xs) : FreI.RdI w v xs := by
  obtain ⟨p, c, rfl, _, _, hc⟩ := h
  exact ⟨p, c, rfl, hc⟩
theorem rds_drew {w : World} {v : Value} {xs : List Int} (h : RdS .i64 w v xs) (n : Nat) : RdS .i64 (w.drewN n) v xs := rds_below h (below_drewN (Below.refl _ w) n)

theorem readable : ∀ t ∈ Try.f6.params.toList, Try.prog.readableRec t = true ∧ t < Try.prog.types.size := by
  have h : (Try.f6.params.toList.all fun t => Try.prog.readableRec t && decide (t < Try.prog.types.size)) = true := by kernel_rfl
  intro t ht
  have := List.all_eq_true.1 h t ht
  simpa using this

/-! The walk. -/
theorem walk (w : World) (A0 : Option Addr) (n0 c0 : Nat) (z0 : List Int) (l0 : n0 ≤ c0) (m0 : c0 ≤ maxLen) (s0 : Ints .i64 w A0 n0 z0) :
    Calls Try.prog 6 #[.slice A0 n0 c0] w fun e w' => e = .returned (.bool true) ∧ Kept w w' := by
  have HS := Lib.hid (rds_ints s0 l0 m0)
  have hN := s0.1
  have HN := Lib.hid hN
  clear s0 l0 m0
  go_enter Try.func6, Try.ntmps6
  by_cases hbig : (100 : Int) < n0
  · clear hN
    go_wp2_with (go_at_call 41; refine (l_awake _).mono ?_; rintro e w1 ⟨rfl, hb1⟩)
    have HB1 := Lib.hid hb1
    clear hb1
    go_ret
    exact ⟨rfl, .of_below HB1.out⟩
  · have hn : (n0 : Int) ≤ 100 := by omega
    have hT := k_twin w A0 n0 c0 z0 HS.out HN.out (by omega)
    clear hbig
    go_upto_region 4 with (go_at_call 42; (with_reducible refine hT.mono ?_); rintro e w1 ⟨A1, c1, rfl, hr1, hb1⟩)
    have hs := k_sorted w1 (.slice A0 n0 c0) z0 (rds_below HS.out hb1) (by omega)
    have hr : ∀ w2, Below w1.heap.size w1 w2 → Calls _ _ _ _ _ := fun w2 hb => r_sorted w2 A0 n0 c0 z0 (rds_below (rds_below HS.out hb1) hb) HN.out (by omega)
    have hl : (srt z0).length ≤ 1000 := by have := srt_len z0; omega
    have hi1 : ∀ w2 w3 p2 c2 p3 c3, Below w2.heap.size w2 w3 → RdS .i64 w2 (.slice p2 (srt z0).length c2) (srt z0) → RdS .i64 w3 (.slice p3 (srt z0).length c3) (srt z0) → Calls _ _ _ _ _ := fun w2 w3 p2 c2 p3 c3 hb h2 h3 => FreI.k_ints w3 (.slice p2 (srt z0).length c2) (.slice p3 (srt z0).length c3) (srt z0) (rdi_rds (rds_below h2 hb)) (rdi_rds h3) hl
    have hi2 : ∀ w4, Below w.heap.size w w4 → Below w1.heap.size w1 w4 → Calls _ _ _ _ _ := fun w4 h1 h2 => FreI.k_ints w4 (.slice A0 n0 c0) (.slice A1 n0 c1) z0 (rdi_rds (rds_below HS.out h1)) (rdi_rds (rds_below hr1.slice h2)) (by omega)
    have HB1 := Lib.hid hb1
    have HNN := Lib.hid hn
    clear hT hr1 hb1 hN hn hl
    go_wp2_with (first
      | (go_at_call 44; (with_reducible refine hs.mono ?_); rintro e w2 ⟨v2, rfl, ho2, hb2⟩; obtain ⟨p2, c2, rfl, _⟩ := own_slice ho2; have hr2 := hr _ hb2)
      | (go_at_call 45; (with_reducible refine hr2.mono ?_); rintro e w3 ⟨p3, c3, rfl, ho3, hb3⟩; have hi1 := hi1 _ _ _ _ _ _ hb3 (rdr_own ho2).slice (rdr_own ho3).slice)
      | (go_at_call 43; (with_reducible refine hi1.mono ?_); rintro e w4 ⟨rfl, hw4⟩; have hb4 : Below w1.heap.size w1 w4 := (by obtain ⟨n4, rfl⟩ := hw4; exact below_drewN (below_trans2 hb2 hb3) n4); have hi2 := hi2 _ (below_trans2 HB1.out hb4) hb4)
      | (go_at_call 43; (with_reducible refine hi2.mono ?_); rintro e w5 ⟨rfl, hw5⟩)
      | (go_at_call 41; (with_reducible refine (l_awake _).mono ?_); rintro e w6 ⟨rfl, hb6⟩))
    have HF : Hid (Below w.heap.size w w6) := Lib.hid (by
      obtain ⟨n5, rfl⟩ := hw5
      exact below_trans2 (below_drewN (below_trans2 HB1.out hb4) n5) hb6)
    clear hs hr hi1 hi2 hr2 ho2 ho3 hb2 hb3 hw4 hb4 hw5 hb6
    go_ret
    exact ⟨rfl, .of_below HF.out⟩

/-! The row's step. -/
set_option maxRecDepth 100000 in
theorem lifted (os : Os) (started : os.Started) (H : Type) (enc : TypeId × Value → H) :
    ReturnsInHanded {} Try.checked os 6 .any (Rows.lockerSortsSpec.pre6 enc Try.prog Try.f6 Rows.lockerSortsRow.domain false) (Rows.lockerSortsSpec.post enc Try.prog Try.f6 false true false false) := by
  refine returnsInHanded_of_change (C := Try.checked) own started (by kernel_rfl) Try.func6
    (ChangeSpec.witness6 (enc := enc) (C := Try.checked) false ⟨#[], #[.slice none 0 0], []⟩ 8 (by kernel_rfl) (by kernel_rfl) (by kernel_rfl) (by kernel_rfl)) ?_
  intro W base args ds gs before hval0 hW hcnd _
  have hval : ∀ (j : Nat) t v, Try.f6.params[j]? = some t → args[j]? = some v → Value.okWide Try.prog W .any base t v := hval0
  have hW' := hW
  obtain ⟨p, q, hA0, hV, rfl, hfz, hnd⟩ := hW
  have hA : DataW.TrodAll enc Try.prog W 0 (fun _ => true) true Try.f6.params.toList args.toList ds p := hA0
  rw [Try.params6] at hA hval
  obtain ⟨v0, vs0, d0, ds0, p0, q0, hargs, rfl, rfl, h0, r0⟩ := trodAll_cons hA
  obtain ⟨rfl, rfl, rfl⟩ := trodAll_nil r0
  obtain rfl : args = #[v0] := by cases args; simp_all
  obtain ⟨rfl, rfl⟩ := trodVars_none hV
  have hk : ∀ W', Kept W W' → Rows.lockerSortsSpec.post enc Try.prog Try.f6 false true false false W #[v0] (.bool true) W' := fun W' hb =>
    post_law laidOut readable rfl Try.underlying4 rfl hW' rfl hb
  clear hA0 hval0 hA hW'
  obtain ⟨A0, n0, c0, z0, rfl, l0, m0, s0⟩ := open_slice Try.underlying47 Try.underlying3 cells3 (hval 0 47 v0 rfl rfl) h0
  refine (walk W A0 n0 c0 z0 l0 m0 s0).mono fun e W' ⟨he, hg⟩ => ?_
  subst he
  exact ⟨_, rfl, hk W' hg⟩

theorem over : Rows.lockerSortsRow.holds Try.pinned (OpenSpec.ofChange Rows.lockerSortsSpec) :=
  OpenClaim.holds_of_wide 6 Try.f6 rfl rfl rfl rfl rfl rfl rfl ⟨rfl, rfl, rfl, rfl, rfl⟩ rfl rfl rfl rfl rfl (by kernel_rfl) Try.func6 (by kernel_rfl)
    (of_decide_eq_true (by kernel_rfl)) (by unfold Func.isWrapper; first | (rw [if_pos (by decide +kernel)]; kernel_rfl) | (rw [if_neg (by decide +kernel)]; exact ⟨rfl, rfl⟩))
    (fun os started H enc _ => lifted os started H enc)

/-- The statement. -/
theorem proved : Rows.LockerSortsSaid :=
  over
#print axioms proved
end Go.Proofs.Ytphnadchdhblpaa.lockerSorts
