/-
  Proved: in configurations that are made from five numbers every address of a word or of a block's state has an orec, the same as the address that is Orecs greater; others have none. No condition.
-/
import Derived.Test.YtaljpggppocnjaaRows
import Derived.WalkKit
import Derived.ProofKit
import Derived.OpenShut
import Derived.Test.YtaljpggppocnjaaFrame
import Derived.Test.YtaljpggppocnjaaLayO
import Derived.Test.YtaljpggppocnjaaLayP
namespace Go.Proofs.Ytaljpggppocnjaa.layoutOrecs
open Go.ChangeShapes Go.WideShapes Go.ChangeAt Go.RowKit
open LawFrame
open Go.ChangeMaps (open_string)
set_option linter.unusedVariables false

theorem own : ownKnob Try.prog.godebug = none := by kernel_rfl
theorem laidOut : laidOutB Try.prog = true := by kernel_rfl

open PlainT BlkW LayS LayA LayG LayH LayI LayK LayO LayP
set_option maxHeartbeats 1000000
set_option maxRecDepth 100000
theorem orc_of {q : Cfg} (h : Valid q) {a : Int} (h0 : 0 ≤ a) (h1 : a < q.w + blkV q) : orcV q a = a % q.o := by
  unfold orcV
  rw [if_pos ⟨chk_iff.2 h, h0, h1⟩]
theorem orc_no {q : Cfg} {a : Int} (h1 : a < 0 ∨ q.w + blkV q ≤ a) : orcV q a = -1 := by
  unfold orcV
  rw [if_neg (by omega)]
theorem blocks_below (q : Cfg) (w : World) : Calls Try.prog 13 #[cfgV q] w fun e w' => e = .returned (.int .i64 (blkV q)) ∧ Below w.heap.size w w' := LayD.a_blocks q w

theorem readable : ∀ t ∈ Try.f6.params.toList, Try.prog.readableRec t = true ∧ t < Try.prog.types.size := by
  have h : (Try.f6.params.toList.all fun t => Try.prog.readableRec t && decide (t < Try.prog.types.size)) = true := by kernel_rfl
  intro t ht
  have := List.all_eq_true.1 h t ht
  simpa using this

/-! The walk. -/
theorem walk (w : World) (x0_0 x0_1 x0_2 x0_3 x0_4 : Int) (wx0_0 : LayS.InI x0_0) (wx0_1 : LayS.InI x0_1) (wx0_2 : LayS.InI x0_2) (wx0_3 : LayS.InI x0_3) (wx0_4 : LayS.InI x0_4) :
    Calls Try.prog 6 #[.agg #[.int .i64 x0_0, .int .i64 x0_1, .int .i64 x0_2, .int .i64 x0_3, .int .i64 x0_4]] w fun e w' => e = .returned (.bool true) ∧ Kept w w' := by
  show Calls _ _ #[.agg _] _ _
  clear wx0_0 wx0_1 wx0_2 wx0_3 wx0_4
  have HB0 := Lib.hid (below_new w (.cells #[.int .i64 x0_0, .int .i64 x0_1, .int .i64 x0_2, .int .i64 x0_3, .int .i64 x0_4] 28))
  go_enter Try.func6, Try.ntmps6
  go_wp2_with fail
  refine (l_config _ _ _ _ _ _).mono ?_
  rintro e w1 ⟨q, rfl, hmade, hb1⟩
  have HB1 := Lib.hid (below_trans2 HB0.out hb1)
  have hq := hq_new w1 q
  have HV := Lib.hid (made_valid hmade)
  have ho0 : 1 ≤ q.o := hmade.2.2.1
  have ho1 : q.o ≤ 8 := hmade.2.2.2.1
  have hw0 : 4 ≤ q.w := hmade.1
  have hw1 : q.w ≤ 12 := hmade.2.1
  obtain ⟨n0, n1⟩ := blk_in q
  obtain ⟨n, hn⟩ : ∃ n, blkV q = n := ⟨_, rfl⟩
  have hbl := blocks_below q
  rw [hn] at n0 n1 hbl
  have HN := Lib.hid hn
  clear hmade hb1 hn
  have hwn : IntKind.i64.wrap (q.w + n) = q.w + n := IntWalk.i64_in _ (by omega)
  go_wp2_with fail
  go_region_held3 (HeldQ w1 w1.heap.size q) (first | exact heldq_drew hq | exact heldq_keep (by assumption) (by assumption)) ((go_at_call 13; (with_reducible refine (hbl _).mono ?_); rintro e w2 ⟨rfl, hb2⟩))
  all_goals
    have hq2 := heldq_hq (by assumption : HeldQ w1 w1.heap.size q _)
    clear hq
    rename_i hx
    clear hx
    obtain ⟨m, hm⟩ : ∃ m : Nat, q.w + n = m := ⟨(q.w + n).toNat, by omega⟩
    have HM := Lib.hid hm
    go_wp2_with fail
    try rw [HM.out]
    clear hm hwn
    go_loopw [5] (fun av wr => ∃ a : Nat, a ≤ m ∧ av = .int .i64 a ∧ HQ w1 w1.heap.size q wr) (fun av _ => m - (intOf av).toNat)
    case atStart => exact ⟨0, by omega, rfl, hq2⟩
    case round =>
      obtain ⟨a, ha, rfl, hr⟩ := hrel
      clear hq2
      obtain ⟨d0, d1, d2, d3, d4, d5, d6, d7, d8, d9, d10, d11, d12, _⟩ := heldq_of hr
      by_cases hlt : a < m
      · have hA := a_orec q a
        rw [orc_of HV.out (by omega) (by have := HN.out; have := HM.out; omega)] at hA
        obtain ⟨o, ho⟩ : ∃ o, (a : Int) % q.o = o := ⟨_, rfl⟩
        rw [ho] at hA
        have o0 : 0 ≤ o := by rw [← ho]; exact Int.emod_nonneg _ (by omega)
        have o1 : o < q.o := by rw [← ho]; exact Int.emod_lt_of_pos _ (by omega)
        have HO := Lib.hid ho
        have hma : m ≤ 100 := by have := HM.out; omega
        clear ho
        by_cases h2 : (a : Int) < q.o
        · obtain rfl : o = a := by rw [← HO.out]; exact Int.emod_eq_of_lt (by omega) h2
          by_cases h1 : (a : Int) + q.o < m
          · have hA2 := a_orec q (a + q.o)
            rw [orc_of HV.out (by omega) (by have := HN.out; have := HM.out; omega), Int.add_emod_right, HO.out] at hA2
            go_wp2_with (first | (go_at_call 17; (with_reducible refine (hA _).mono ?_); rintro e w3 ⟨rfl, hb3⟩; clear d0 d1 d2 d3 d4 d5 d6 d7 d8 d9 d10 d11 d12; obtain ⟨d0, d1, d2, d3, d4, d5, d6, d7, d8, d9, d10, d11, d12, hr3⟩ := heldq_keep (heldq_of hr) hb3; clear hb3) | (go_at_call 17; (with_reducible refine (hA2 _).mono ?_); rintro e w4 ⟨rfl, hb4⟩; clear d0 d1 d2 d3 d4 d5 d6 d7 d8 d9 d10 d11 d12; obtain ⟨d0, d1, d2, d3, d4, d5, d6, d7, d8, d9, d10, d11, d12, hr4⟩ := heldq_keep (heldq_of hr3) hb4; clear hb4))
            go_roundw
            case rel => exact ⟨a + 1, by omega, by go_num, hr4⟩
            case measure => simp [intOf]; omega
          · go_wp2_with (go_at_call 17; (with_reducible refine (hA _).mono ?_); rintro e w3 ⟨rfl, hb3⟩; clear d0 d1 d2 d3 d4 d5 d6 d7 d8 d9 d10 d11 d12; obtain ⟨d0, d1, d2, d3, d4, d5, d6, d7, d8, d9, d10, d11, d12, hr3⟩ := heldq_keep (heldq_of hr) hb3; clear hb3)
            go_roundw
            case rel => exact ⟨a + 1, by omega, by go_num, hr3⟩
            case measure => simp [intOf]; omega
        · by_cases h1 : (a : Int) + q.o < m
          · have hA2 := a_orec q (a + q.o)
            rw [orc_of HV.out (by omega) (by have := HN.out; have := HM.out; omega), Int.add_emod_right, HO.out] at hA2
            go_wp2_with (first | (go_at_call 17; (with_reducible refine (hA _).mono ?_); rintro e w3 ⟨rfl, hb3⟩; clear d0 d1 d2 d3 d4 d5 d6 d7 d8 d9 d10 d11 d12; obtain ⟨d0, d1, d2, d3, d4, d5, d6, d7, d8, d9, d10, d11, d12, hr3⟩ := heldq_keep (heldq_of hr) hb3; clear hb3) | (go_at_call 17; (with_reducible refine (hA2 _).mono ?_); rintro e w4 ⟨rfl, hb4⟩; clear d0 d1 d2 d3 d4 d5 d6 d7 d8 d9 d10 d11 d12; obtain ⟨d0, d1, d2, d3, d4, d5, d6, d7, d8, d9, d10, d11, d12, hr4⟩ := heldq_keep (heldq_of hr3) hb4; clear hb4))
            go_roundw
            case rel => exact ⟨a + 1, by omega, by go_num, hr4⟩
            case measure => simp [intOf]; omega
          · go_wp2_with (go_at_call 17; (with_reducible refine (hA _).mono ?_); rintro e w3 ⟨rfl, hb3⟩; clear d0 d1 d2 d3 d4 d5 d6 d7 d8 d9 d10 d11 d12; obtain ⟨d0, d1, d2, d3, d4, d5, d6, d7, d8, d9, d10, d11, d12, hr3⟩ := heldq_keep (heldq_of hr) hb3; clear hb3)
            go_roundw
            case rel => exact ⟨a + 1, by omega, by go_num, hr3⟩
            case measure => simp [intOf]; omega
      · obtain rfl : a = m := by omega
        have hA := a_orec q (-1)
        rw [orc_no (by omega)] at hA
        have hA2 := a_orec q a
        rw [orc_no (by have := HN.out; have := HM.out; omega)] at hA2
        go_wp2_with (first | (go_at_call 17; (with_reducible refine (hA _).mono ?_); rintro e w3 ⟨rfl, hb3⟩; clear d0 d1 d2 d3 d4 d5 d6 d7 d8 d9 d10 d11 d12; obtain ⟨d0, d1, d2, d3, d4, d5, d6, d7, d8, d9, d10, d11, d12, hr3⟩ := heldq_keep (heldq_of hr) hb3; clear hb3) | (go_at_call 17; (with_reducible refine (hA2 _).mono ?_); rintro e w4 ⟨rfl, hb4⟩; clear d0 d1 d2 d3 d4 d5 d6 d7 d8 d9 d10 d11 d12; obtain ⟨d0, d1, d2, d3, d4, d5, d6, d7, d8, d9, d10, d11, d12, hr4⟩ := heldq_keep (heldq_of hr3) hb4; clear hb4) | (go_at_call 8; (with_reducible refine (l_awake _).mono ?_); rintro e w5 ⟨rfl, hb5⟩; have hr5 := heldq_hq (heldq_keep (heldq_of hr4) hb5)))
        go_ret
        exact ⟨rfl, Kept.of_below (below_trans2 HB1.out hr5.2)⟩

/-! The row's step. -/
set_option maxRecDepth 100000 in
theorem lifted (os : Os) (started : os.Started) (H : Type) (enc : TypeId × Value → H) :
    ReturnsInHanded {} Try.checked os 6 .any (Rows.layoutOrecsSpec.pre6 enc Try.prog Try.f6 Rows.layoutOrecsRow.domain false) (Rows.layoutOrecsSpec.post enc Try.prog Try.f6 false true false false) := by
  refine returnsInHanded_of_change (C := Try.checked) own started (by kernel_rfl) Try.func6
    (ChangeSpec.witness6 (enc := enc) (C := Try.checked) false ⟨#[], #[.agg #[.int .i64 0, .int .i64 0, .int .i64 0, .int .i64 0, .int .i64 0]], []⟩ 8 (by kernel_rfl) (by kernel_rfl) (by kernel_rfl) (by kernel_rfl)) ?_
  intro W base args ds gs before hval0 hW hcnd _
  have hval : ∀ (j : Nat) t v, Try.f6.params[j]? = some t → args[j]? = some v → Value.okWide Try.prog W .any base t v := hval0
  have hW' := hW
  obtain ⟨p, q, hA0, hV, rfl, hfz, hnd⟩ := hW
  have hA : DataW.TrodAll enc Try.prog W 0 (fun _ => true) true Try.f6.params.toList args.toList ds p := hA0
  rw [Try.params6] at hA hval
  obtain ⟨v0, vs0, d0, ds0, p0, q0, hargs, rfl, rfl, h0, r0⟩ := trodAll_cons hA
  obtain ⟨rfl, rfl, rfl⟩ := trodAll_nil r0
  obtain rfl : args = #[v0] := by cases args; simp_all
  obtain ⟨rfl, rfl⟩ := trodVars_none hV
  have hk : ∀ W', Kept W W' → Rows.layoutOrecsSpec.post enc Try.prog Try.f6 false true false false W #[v0] (.bool true) W' := fun W' hb =>
    post_law laidOut readable rfl Try.underlying4 rfl hW' rfl hb
  clear hA0 hval0 hA hW'
  obtain ⟨x0_0, x0_1, x0_2, x0_3, x0_4, rfl, wx0_0, wx0_1, wx0_2, wx0_3, wx0_4⟩ := LayO.open_arr5 (hval 0 28 v0 rfl rfl) h0
  refine (walk W x0_0 x0_1 x0_2 x0_3 x0_4 wx0_0 wx0_1 wx0_2 wx0_3 wx0_4).mono fun e W' ⟨he, hg⟩ => ?_
  subst he
  exact ⟨_, rfl, hk W' hg⟩

theorem over : Rows.layoutOrecsRow.holds Try.pinned (OpenSpec.ofChange Rows.layoutOrecsSpec) :=
  OpenClaim.holds_of_wide 6 Try.f6 rfl rfl rfl rfl rfl rfl rfl ⟨rfl, rfl, rfl, rfl, rfl⟩ rfl rfl rfl rfl rfl (by kernel_rfl) Try.func6 (by kernel_rfl)
    (of_decide_eq_true (by kernel_rfl)) (by unfold Func.isWrapper; first | (rw [if_pos (by decide +kernel)]; kernel_rfl) | (rw [if_neg (by decide +kernel)]; exact ⟨rfl, rfl⟩))
    (fun os started H enc _ => lifted os started H enc)

/-- The statement. -/
theorem proved : Rows.LayoutOrecsSaid :=
  over
#print axioms proved
end Go.Proofs.Ytaljpggppocnjaa.layoutOrecs
