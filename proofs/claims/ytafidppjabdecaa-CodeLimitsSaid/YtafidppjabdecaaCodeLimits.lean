/- The limit of the bytes: for every number, a script with as many picks as fit, or one more, is encoded as the document says, and bytes that are too many are refused: the law returns true for every input, and its argument reads as before. No condition. -/
import Derived.Test.YtafidppjabdecaaRows
import Derived.WalkKit
import Derived.ProofKit
import Derived.OpenShut
import Derived.Test.YtafidppjabdecaaFrame
import Derived.Test.YtafidppjabdecaaCodeZ
import Derived.Test.YtafidppjabdecaaCodeV
import Derived.Test.YtafidppjabdecaaCodeSame
import Derived.Deep.DeepCutAuto
namespace Go.Proofs.Ytafidppjabdecaa.codeLimits
open Go.ChangeShapes Go.WideShapes Go.ChangeAt Go.RowKit
open LawFrame
open Go.ChangeMaps (open_string)
set_option linter.unusedVariables false

theorem own : ownKnob Try.prog.godebug = none := by kernel_rfl
theorem laidOut : laidOutB Try.prog = true := by kernel_rfl

open PlainT BlkW CodeS CodeW CodeA CodeP CodeO CodeI CodeH CodeD CodeT CodeU CodeV CodeZ CodeSame

theorem info_i : (Try.prog.info? 3).map (fun i => (i.zero, i.size, i.bytes)) = some (some (.int .i64 0), 1, 8) := by kernel_rfl
def scrL (N : Nat) : Scr := ⟨[0, 0, 0, 0, 0, 0, 0, 0, 0, 0, 0, 0], false, [], [], List.replicate N 0⟩
theorem scrL_ok (N : Nat) (h : N ≤ 1000000) : (scrL N).Ok := by
  refine ⟨⟨rfl, ?_⟩, ⟨by unfold scrL; simp, ?_⟩, ⟨by unfold scrL; simp, ?_⟩, ⟨by unfold scrL; simp; omega, ?_⟩⟩
  · intro x hx
    simp [scrL] at hx
    subst hx
    unfold InI
    omega
  · intro x hx
    simp [scrL] at hx
  · intro x hx
    simp [scrL] at hx
  · intro x hx
    simp [scrL] at hx
    rw [hx.2]
    unfold InI
    omega
theorem scrL_len (N : Nat) (h : N ≤ 1000000) : (bytesOf (scrL N)).length ≤ 800000000000 := by
  have ok := scrL_ok N h
  have hs := CodeB.flat_len (scrL N).cfg ok.cfg.2
  have hk := CodeB.flat_len (scrL N).picks ok.picks.2
  have l1 : (uB ((scrL N).init.length : Int)).length ≤ 10 := uB_ten ⟨by omega, by simp [scrL]⟩
  have l2 : (uB ((scrL N).progs.length : Int)).length ≤ 10 := uB_ten ⟨by omega, by simp [scrL]⟩
  have l3 : (uB ((scrL N).picks.length : Int)).length ≤ 10 := uB_ten ⟨by omega, by simp [scrL]; omega⟩
  have lc : (scrL N).cfg.length = 12 := rfl
  have lk : (scrL N).picks.length = N := by simp [scrL]
  have li : (scrL N).init = [] := rfl
  have lp : (scrL N).progs = [] := rfl
  unfold bytesOf headB listB
  rw [li, lp]
  simp only [List.length_append, List.length_cons, List.length_nil, List.flatMap_nil, li, lp] at l1 l2 ⊢
  omega
/-- make, of numbers. -/
theorem make_i (w : World) (N : Nat) (h : N ≤ 1000000) : ∃ w', (Instr.makeSlice 27 (.int .i64 (N : Int)) (.int .i64 (N : Int))).run Try.prog w = .ok (.slice (some ⟨w.heap.size, 0, none⟩) N N) w' ∧ Ints .i64 w' (some ⟨w.heap.size, 0, none⟩) N (List.replicate N 0) ∧ Below w.heap.size w w' := by
  obtain ⟨i0, hi, hz0, hz1, hz2⟩ := info_parts info_i
  obtain ⟨w', hr, ho, hg⟩ := run_makeSlice_full (P := Try.prog) w w.heap.size 27 3 i0 _ 1 Try.underlying27 hi hz0 hz1 .i64 .i64 N (by omega) (by rw [hz2]; omega) (by unfold maxLen; omega) (Nat.le_refl _)
  refine ⟨w', hr, ?_, (Below.refl _ w).grown hg (Nat.le_refl _) (fun k hk => by cases hk)⟩
  rw [show (Value.int IntKind.i64 0).cells = #[.int .i64 0] from rfl, Nat.mul_one, toList_madeCells_one] at ho
  exact (own_ints (k := .i64) (xs := List.replicate N 0) (by simpa using ho) (by intro x hx; simp at hx; rw [hx.2]; decide)).2.2
theorem make_b (w : World) (N : Nat) (h : N ≤ 1000000) : ∃ w', (Instr.makeSlice 31 (.int .i64 (N : Int)) (.int .i64 (N : Int))).run Try.prog w = .ok (.slice (some ⟨w.heap.size, 0, none⟩) N N) w' ∧ Ints .u8 w' (some ⟨w.heap.size, 0, none⟩) N (List.replicate N 0) ∧ Below w.heap.size w w' := by
  obtain ⟨i0, hi, hz0, hz1, hz2⟩ := info_parts info_byte
  obtain ⟨w', hr, ho, hg⟩ := run_makeSlice_full (P := Try.prog) w w.heap.size 31 5 i0 _ 1 Try.underlying31 hi hz0 hz1 .i64 .i64 N (by omega) (by rw [hz2]; omega) (by unfold maxLen; omega) (Nat.le_refl _)
  refine ⟨w', hr, ?_, (Below.refl _ w).grown hg (Nat.le_refl _) (fun k hk => by cases hk)⟩
  rw [show (Value.int IntKind.u8 0).cells = #[.int .u8 0] from rfl, Nat.mul_one, toList_madeCells_one] at ho
  exact (own_ints (k := .u8) (xs := List.replicate N 0) (by simpa using ho) (by intro x hx; simp at hx; rw [hx.2]; decide)).2.2
theorem kept_trans {a b c : World} (h : Below a.heap.size a b) (k : Below b.heap.size b c) : Below a.heap.size a c := h.trans (k.mono h.size)

theorem readable : ∀ t ∈ Try.f8.params.toList, Try.prog.readableRec t = true ∧ t < Try.prog.types.size := by
  have h : (Try.f8.params.toList.all fun t => Try.prog.readableRec t && decide (t < Try.prog.types.size)) = true := by kernel_rfl
  intro t ht
  have := List.all_eq_true.1 h t ht
  simpa using this

/-! The walk. -/
theorem walk (w : World) (a0 : Int) (w0 : (Lit.int .i64 a0).wf = true) :
    Calls Try.prog 8 #[.int .i64 a0] w fun e w' => e = .returned (.bool true) ∧ Kept w w' := by
  have ha := wf_i64 w0
  go_enter Try.func8, Try.ntmps8
  go_wp2_with fail
  refine (a_place a0 3 (by omega) (by omega) ha _).mono ?_
  rintro e wz ⟨⟨r, rfl, hr0, hr3⟩, rfl⟩
  obtain ⟨m, rfl⟩ := Int.eq_ofNat_of_zero_le hr0
  have hm3 : m < 3 := by omega
  obtain ⟨N, hN⟩ : ∃ N, N = 262121 + m := ⟨_, rfl⟩
  have hNb : N ≤ 1000000 := by omega
  obtain ⟨w1, hmk, hI1, hb1⟩ := make_i w N hNb
  rw [show ((N : Nat) : Int) = 262121 + (m : Int) by omega] at hmk
  have hgl : w.heap.size < w1.heap.size := by
    obtain ⟨b, off, e, hb, _⟩ := hI1.2.2 (by omega)
    cases e
    exact hb
  obtain ⟨w2, hw2⟩ : ∃ w2, w2 = w1.alloc (.cells #[.int .i64 0, .int .i64 0, .int .i64 0, .int .i64 0, .int .i64 0, .int .i64 0, .int .i64 0, .int .i64 0, .int .i64 0, .int .i64 0, .int .i64 0, .int .i64 0, .bool false, .slice none 0 0, .slice none 0 0, .slice (some ⟨w.heap.size, 0, none⟩) N N] 29) := ⟨_, rfl⟩
  have hb2 : Below w1.heap.size w1 w2 := hw2 ▸ below_new w1 _
  have hm2 : Mem w2 w1.heap.size 29 #[.int .i64 0, .int .i64 0, .int .i64 0, .int .i64 0, .int .i64 0, .int .i64 0, .int .i64 0, .int .i64 0, .int .i64 0, .int .i64 0, .int .i64 0, .int .i64 0, .bool false, .slice none 0 0, .slice none 0 0, .slice (some ⟨w.heap.size, 0, none⟩) N N] := hw2 ▸ Mem.new w1 _ _
  have hh2 : Holds w2 w2.heap.size (scrL N) (.agg #[.int .i64 0, .int .i64 0, .int .i64 0, .int .i64 0, .int .i64 0, .int .i64 0, .int .i64 0, .int .i64 0, .int .i64 0, .int .i64 0, .int .i64 0, .int .i64 0, .bool false, .slice none 0 0, .slice none 0 0, .slice (some ⟨w.heap.size, 0, none⟩) N N]) :=
    ⟨0, 0, 0, 0, 0, 0, 0, 0, 0, 0, 0, 0, none, 0, 0, none, 0, 0, _, N, N, rfl, rfl, (scrL_ok N hNb).cfg.2, ⟨Nat.le_refl _, Nat.zero_le _, rfl, (by intro z hz; cases hz), fun h => absurd h (by omega)⟩, ⟨Nat.le_refl _, Nat.zero_le _, rfl, fun h => absurd h (by omega)⟩, ⟨Nat.le_refl _, by unfold maxLen; omega, Ints.upto hI1 hb2⟩⟩
  obtain ⟨l, hl⟩ : ∃ l, bytesOf (scrL N) = l := ⟨_, rfl⟩
  have HBY := Lib.hid (show ∀ b ∈ l, InB b from hl ▸ bytes_byte _ (scrL_ok N hNb))
  have HLE := Lib.hid (show l.length ≤ 800000000000 from hl ▸ scrL_len N hNb)
  have HL := Lib.hid hl
  have HW := Lib.hid hw2
  have HB := Lib.hid (kept_trans hb1 hb2)
  have HM := Lib.hid hm2
  have HH := Lib.hid hh2
  have HN := Lib.hid hN
  clear hI1 hb1 hb2 hm2 hh2 hw2 hl hr0 hr3 hN
  go_wp2_with fail
  rw [← HW.out]
  clear HW hmk
  refine (enc_holds HH.out l HL.out).mono ?_
  rintro e w3 h3
  obtain ⟨hb3, A3, n3, c3, rfl, hi3, _, _⟩ := enc_any h3 HBY.out
  obtain ⟨E, hE⟩ : ∃ E, errL l = E := ⟨_, rfl⟩
  rw [hE]
  have HE := Lib.hid hE
  have HM3 := Lib.hid (HM.out.below hb3 HM.out.lt)
  have HH3 := Lib.hid (Holds.upto HH.out (Old.of_below hb3))
  have HB3 := Lib.hid (kept_trans HB.out hb3)
  have HI3 := Lib.hid hi3
  have fl3 := HM3.out.cell
  have g0 := fl3 0
  have g1 := fl3 1
  have g2 := fl3 2
  have g3 := fl3 3
  have g4 := fl3 4
  have g5 := fl3 5
  have g6 := fl3 6
  have g7 := fl3 7
  have g8 := fl3 8
  have g9 := fl3 9
  have g10 := fl3 10
  have g11 := fl3 11
  have g12 := fl3 12
  have g13 := fl3 13
  have g14 := fl3 14
  have g15 := fl3 15
  simp at g0 g1 g2 g3 g4 g5 g6 g7 g8 g9 g10 g11 g12 g13 g14 g15
  clear h3 hb3 hi3 hE fl3 HM HH HB
  go_wp2_with fail
  refine (r_encode HH3.out l HL.out HLE.out).mono ?_
  rintro e w4 h4
  obtain ⟨hb4, A4, n4, c4, rfl, hi4, _, _⟩ := enc_any h4 HBY.out
  obtain rfl : n3 = n4 := by rw [← HI3.out.1, hi4.1]
  rw [HE.out]
  have HB4 := Lib.hid (kept_trans HB3.out hb4)
  have HI3' := Lib.hid (Ints.upto HI3.out hb4)
  have HI4 := Lib.hid hi4
  clear h4 hb4 hi4 HB3 HI3 HH3 HM3 HE HL HLE HBY g0 g1 g2 g3 g4 g5 g6 g7 g8 g9 g10 g11 g12 g13 g14 g15
  obtain ⟨K, hK⟩ : ∃ K : Nat, K = 262145 := ⟨_, rfl⟩
  obtain ⟨w5, hmk5, hI5, hb5⟩ := make_b w4 K (by omega)
  rw [show ((K : Nat) : Int) = 262145 by omega] at hmk5
  have HK := Lib.hid hK
  have HI5 := Lib.hid hI5
  have HB5 := Lib.hid (kept_trans HB4.out hb5)
  have HI3'' := Lib.hid (Ints.upto HI3'.out hb5)
  have HI4'' := Lib.hid (Ints.upto HI4.out hb5)
  clear hI5 hb5 hK HB4 HI3' HI4
  go_wp2_with fail
  refine (a_decode _ K K _ _ (Nat.le_refl _) (by have := HK.out; unfold maxLen; omega) HI5.out).mono ?_
  rintro e w6 ⟨hb6, h6⟩
  have hlenK : 262144 < (List.replicate K (0 : Int)).length := by have := HK.out; rw [List.length_replicate]; omega
  obtain ⟨_, rfl⟩ : 262144 < (List.replicate K (0 : Int)).length ∧ e = .returned (.tuple #[zeroV, .int .i64 3]) := by
    rcases h6 with h6 | ⟨h6, _⟩
    · exact h6
    · omega
  unfold zeroV
  have hnew := below_new w6 (.cells #[.int .i64 0, .int .i64 0, .int .i64 0, .int .i64 0, .int .i64 0, .int .i64 0, .int .i64 0, .int .i64 0, .int .i64 0, .int .i64 0, .int .i64 0, .int .i64 0, .bool false, .slice none 0 0, .slice none 0 0, .slice none 0 0] 29)
  have X3 := Lib.hid (Ints.upto (Ints.upto HI3''.out hb6) hnew)
  have X4 := Lib.hid (Ints.upto (Ints.upto HI4''.out hb6) hnew)
  have HB7 := Lib.hid (kept_trans (kept_trans HB5.out hb6) hnew)
  clear hb6 hnew HI3'' HI4'' HB5 HI5 hlenK hmk5
  go_wp2_with fail
  refine (a_same _ _ _ _ _ _ _ X3.out X4.out).mono ?_
  rintro e w7 ⟨rfl, rfl⟩
  clear X3 X4
  go_wp2_with fail
  refine (a_awake _).mono ?_
  rintro e w8 ⟨rfl, hb8⟩
  go_wp2
  go_ret
  exact ⟨rfl, Kept.of_below (kept_trans HB7.out hb8)⟩

/-! The row's step. -/
set_option maxRecDepth 100000 in
theorem lifted (os : Os) (started : os.Started) (H : Type) (enc : TypeId × Value → H) :
    ReturnsInHanded {} Try.checked os 8 .any (Rows.codeLimitsSpec.pre6 enc Try.prog Try.f8 Rows.codeLimitsRow.domain false) (Rows.codeLimitsSpec.post enc Try.prog Try.f8 false true false false) := by
  refine returnsInHanded_of_change (C := Try.checked) own started (by kernel_rfl) Try.func8
    (ChangeSpec.witness6 (enc := enc) (C := Try.checked) false ⟨#[], #[.int .i64 0], []⟩ 8 (by kernel_rfl) (by kernel_rfl) (by kernel_rfl) (by kernel_rfl)) ?_
  intro W base args ds gs before hval0 hW hcnd _
  have hval : ∀ (j : Nat) t v, Try.f8.params[j]? = some t → args[j]? = some v → Value.okWide Try.prog W .any base t v := hval0
  have hW' := hW
  obtain ⟨p, q, hA0, hV, rfl, hfz, hnd⟩ := hW
  have hA : DataW.TrodAll enc Try.prog W 0 (fun _ => true) true Try.f8.params.toList args.toList ds p := hA0
  rw [Try.params8] at hA hval
  obtain ⟨v0, vs0, d0, ds0, p0, q0, hargs, rfl, rfl, h0, r0⟩ := trodAll_cons hA
  obtain ⟨rfl, rfl, rfl⟩ := trodAll_nil r0
  obtain rfl : args = #[v0] := by cases args; simp_all
  obtain ⟨rfl, rfl⟩ := trodVars_none hV
  have hk : ∀ W', Kept W W' → Rows.codeLimitsSpec.post enc Try.prog Try.f8 false true false false W #[v0] (.bool true) W' := fun W' hb =>
    post_law laidOut readable rfl Try.underlying4 rfl hW' rfl hb
  clear hA0 hval0 hA hW'
  obtain ⟨a0, rfl, rfl, rfl, w0⟩ := open_int Try.underlying3 (hval 0 3 v0 rfl rfl) h0
  refine (walk W a0 w0).mono fun e W' ⟨he, hg⟩ => ?_
  subst he
  exact ⟨_, rfl, hk W' hg⟩

theorem over : Rows.codeLimitsRow.holds Try.pinned (OpenSpec.ofChange Rows.codeLimitsSpec) :=
  OpenClaim.holds_of_wide 8 Try.f8 rfl rfl rfl rfl rfl rfl rfl ⟨rfl, rfl, rfl, rfl, rfl⟩ rfl rfl rfl rfl rfl (by kernel_rfl) Try.func8 (by kernel_rfl)
    (of_decide_eq_true (by kernel_rfl)) (by unfold Func.isWrapper; first | (rw [if_pos (by decide +kernel)]; kernel_rfl) | (rw [if_neg (by decide +kernel)]; exact ⟨rfl, rfl⟩))
    (fun os started H enc _ => lifted os started H enc)

/-- The statement. -/
theorem proved : Rows.CodeLimitsSaid :=
  over
#print axioms proved
end Go.Proofs.Ytafidppjabdecaa.codeLimits
