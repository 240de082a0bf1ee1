/-
  Proved: tickets are given one after another, each once, whoever takes them. No condition.
-/
import Derived.Test.YtpdmmblcjidekaaRows
import Derived.WalkKit
import Derived.ProofKit
import Derived.OpenShut
import Derived.Test.YtpdmmblcjidekaaFrame
import Derived.Test.YtpdmmblcjidekaaTurL
import Derived.Test.YtpdmmblcjidekaaLayO
namespace Go.Proofs.Ytpdmmblcjidekaa.turnTickets
open Go.ChangeShapes Go.WideShapes Go.ChangeAt Go.RowKit
open LawFrame
open Go.ChangeMaps (open_string)
set_option linter.unusedVariables false

theorem own : ownKnob Try.prog.godebug = none := by kernel_rfl
theorem laidOut : laidOutB Try.prog = true := by kernel_rfl

open PlainT BlkW LayS LayA LayH LayK LayO LayP CelS CelM CelP CelV CelN CelO CelI CelF CelB LabD LabR LabP LabS TurA TurB
set_option maxHeartbeats 4000000
set_option maxRecDepth 100000
theorem img3 (d o l h n : Value) (c t s : Int) (w : World) : (Instr.field 46 (imgV d o c t s l h n) 3).run Try.prog w = .ok (.int .u64 t) w := by kernel_rfl
theorem img4 (d o l h n : Value) (c t s : Int) (w : World) : (Instr.field 46 (imgV d o c t s l h n) 4).run Try.prog w = .ok (.int .u64 s) w := by kernel_rfl

theorem readable : ∀ t ∈ Try.f14.params.toList, Try.prog.readableRec t = true ∧ t < Try.prog.types.size := by
  have h : (Try.f14.params.toList.all fun t => Try.prog.readableRec t && decide (t < Try.prog.types.size)) = true := by kernel_rfl
  intro t ht
  have := List.all_eq_true.1 h t ht
  simpa using this

/-! The walk. -/
theorem walk (w : World) (x0_0 x0_1 x0_2 x0_3 x0_4 : Int) (wx0_0 : LayS.InI x0_0) (wx0_1 : LayS.InI x0_1) (wx0_2 : LayS.InI x0_2) (wx0_3 : LayS.InI x0_3) (wx0_4 : LayS.InI x0_4) (a1 : Int) (w1 : (Lit.int .i64 a1).wf = true) :
    Calls Try.prog 14 #[.agg #[.int .i64 x0_0, .int .i64 x0_1, .int .i64 x0_2, .int .i64 x0_3, .int .i64 x0_4], .int .i64 a1] w fun e w' => e = .returned (.bool true) ∧ Kept w w' := by
  show Calls _ _ #[.agg _, _] _ _
  clear wx0_0 wx0_1 wx0_2 wx0_3 wx0_4
  clear w1
  have HB0 := Lib.hid (below_new w (.cells #[.int .i64 x0_0, .int .i64 x0_1, .int .i64 x0_2, .int .i64 x0_3, .int .i64 x0_4] 22))
  go_enter Try.func14, Try.ntmps14
  go_upto_region 2 with (go_at_call 28; refine (l_small _ _ _ _ _ _).mono ?_; rintro e w1 ⟨q, A, lo, hi, b, rb, rfl, hst⟩)
  obtain ⟨w0, hw0⟩ : ∃ w0, w.alloc (.cells #[.int .i64 x0_0, .int .i64 x0_1, .int .i64 x0_2, .int .i64 x0_3, .int .i64 x0_4] 22) = w0 := ⟨_, rfl⟩
  rw [hw0] at HB0 hst
  clear hw0
  have S0 := Lib.hid (ct_begun hst)
  have hlo := S0.out.lo
  have hle := S0.out.le
  clear hst
  have X1_gp := Lib.hid (Mem.new w1 TP #[.pointer (some ⟨b, 0, none⟩), .pointer (some ⟨rb, 0, none⟩)])
  have S1 := Lib.hid (S0.out.alloc (.cells #[.pointer (some ⟨b, 0, none⟩), .pointer (some ⟨rb, 0, none⟩)] TP))
  have hgp_top := S0.out.top
  obtain ⟨gp, hn⟩ : ∃ gp, w1.heap.size = gp := ⟨_, rfl⟩
  have Z_gp : Hid ((w1.alloc (.cells #[.pointer (some ⟨b, 0, none⟩), .pointer (some ⟨rb, 0, none⟩)] TP)).heap.size = gp + 1) := Lib.hid (by rw [size_new, hn])
  rw [hn] at X1_gp hgp_top 
  first | rw [hn] | skip
  clear hn 
  obtain ⟨W1, hW⟩ : ∃ W', w1.alloc (.cells #[.pointer (some ⟨b, 0, none⟩), .pointer (some ⟨rb, 0, none⟩)] TP) = W' := ⟨_, rfl⟩
  rw [hW] at X1_gp S1 Z_gp
  first | rw [hW] | skip
  clear hW
  clear S0
  have c1_gp_0 := Mem.cell X1_gp.out 0
  have c1_gp_1 := Mem.cell X1_gp.out 1
  simp at c1_gp_0 c1_gp_1
  go_upto_region 5 with (go_at_call 16; refine (k_place_ex _ _ (by omega) (by omega) _).mono ?_; rintro e w2 ⟨p, p0, p1, rfl, rfl⟩)
  obtain ⟨n, hn⟩ : ∃ n : Nat, p = n := ⟨p.toNat, by omega⟩
  subst hn
  have hn30 : n < 30 := by omega
  clear p0 p1
  go_wp2_with fail
  go_loopw [7] (fun iv wr => ∃ i : Nat, i ≤ n ∧ iv = .int .i64 i ∧ Ct w0 lo hi b rb q i 0 wr ∧ Mem wr gp TP #[.pointer (some ⟨b, 0, none⟩), .pointer (some ⟨rb, 0, none⟩)]) (fun iv _ => n - (intOf iv).toNat)
  case atStart => exact ⟨0, by omega, rfl, S1.out, X1_gp.out⟩
  case round =>
    clear c1_gp_0 c1_gp_1 X1_gp S1
    obtain ⟨i, hi3, rfl, hS, hP⟩ := hrel
    have X1_gp := Lib.hid hP
    have S1 := Lib.hid hS
    clear hS hP
    have c1_gp_0 := Mem.cell X1_gp.out 0
    have c1_gp_1 := Mem.cell X1_gp.out 1
    simp at c1_gp_0 c1_gp_1
    by_cases hlt : i < n
    · have hltI : (i : Int) < n := by omega
      go_upto_region 9 with (go_at_call 52; refine (t_new _).mono ?_; rintro e w3' ⟨rfl, rfl⟩)
      have X2_gp := Lib.hid (X1_gp.out.alloc (.cells #[.int .i64 0, .int .i64 (-1)] 138))
      have hge_gp : gp < wr.heap.size := X1_gp.out.lt
      have X2_ge := Lib.hid (Mem.new wr 138 #[.int .i64 0, .int .i64 (-1)])
      have S2 := Lib.hid (S1.out.alloc (.cells #[.int .i64 0, .int .i64 (-1)] 138))
      have hge_top := S1.out.top
      obtain ⟨ge, hn⟩ : ∃ ge, wr.heap.size = ge := ⟨_, rfl⟩
      have Z_ge : Hid ((wr.alloc (.cells #[.int .i64 0, .int .i64 (-1)] 138)).heap.size = ge + 1) := Lib.hid (by rw [size_new, hn])
      rw [hn] at X2_ge hge_top hge_gp
      first | rw [hn] | skip
      clear hn c1_gp_0 c1_gp_1
      obtain ⟨W2, hW⟩ : ∃ W', wr.alloc (.cells #[.int .i64 0, .int .i64 (-1)] 138) = W' := ⟨_, rfl⟩
      rw [hW] at X2_gp X2_ge S2 Z_ge
      first | rw [hW] | skip
      clear hW
      clear X1_gp S1
      have c2_gp_0 := Mem.cell X2_gp.out 0
      have c2_gp_1 := Mem.cell X2_gp.out 1
      have c2_ge_0 := Mem.cell X2_ge.out 0
      have c2_ge_1 := Mem.cell X2_ge.out 1
      simp at c2_gp_0 c2_gp_1 c2_ge_0 c2_ge_1
      go_upto_region 11 with (first | (go_at_call 55; refine (t_ticket ge 0 (-1) _ X2_ge.out).mono ?_; rintro e w9 ⟨rfl, rfl⟩) | (go_at_call 54; refine (t_done ge 0 (-1) _ X2_ge.out).mono ?_; rintro e w9 ⟨rfl, rfl⟩))
      have hc := c_s0 S2.out (.inr (by omega)) (by omega) (-1) (by omega) (by omega) X2_ge.out
      go_upto_region 12 with (go_at_call 58; refine hc.mono ?_; rintro e w2' ⟨rfl, hS, hM, hF⟩)
      have X3_gp := Lib.hid (mem_fr X2_gp.out hF (by unfold PG; omega))
      have X3_ge : Hid (Mem w2' ge 138 #[.int .i64 1, .int .i64 i]) := Lib.hid hM
      have S3 := Lib.hid hS
      clear hc hF hS hM c2_gp_0 c2_gp_1 c2_ge_0 c2_ge_1 X2_gp X2_ge S2
      have c3_gp_0 := Mem.cell X3_gp.out 0
      have c3_gp_1 := Mem.cell X3_gp.out 1
      have c3_ge_0 := Mem.cell X3_ge.out 0
      have c3_ge_1 := Mem.cell X3_ge.out 1
      simp at c3_gp_0 c3_gp_1 c3_ge_0 c3_ge_1
      go_wp2_with (first | (go_at_call 55; refine (t_ticket ge 1 i _ X3_ge.out).mono ?_; rintro e w9 ⟨rfl, rfl⟩) | (go_at_call 54; refine (t_done ge 1 i _ X3_ge.out).mono ?_; rintro e w9 ⟨rfl, rfl⟩))
      go_roundw
      case rel => exact ⟨i + 1, by omega, by go_num, by simpa using S3.out, X3_gp.out⟩
      case measure => simp [intOf]; omega
    · obtain rfl : i = n := by omega
      have himg := c_image S1.out
      have hwn : IntKind.u64.wrap (i : Int) = i := IntWalk.u64_in _ (by omega)
      go_wp2_with (first
        | (go_at_call 26; refine himg.mono ?_; rintro e w14 ⟨vd, vo, k1, vl, vh, vn, rfl, hS, hT⟩; have hf3 := img3 vd vo vl vh vn k1 i 0 w14; have HS := Lib.hid hS; clear hS hT)
        | (go_at_call 51; refine (TurL.l_awake _).mono ?_; rintro e w15 ⟨rfl, hb15⟩; have HB15 := Lib.hid hb15; clear hb15))
      have HBF := Lib.hid (below_trans2 HB0.out (below_trans2 HS.out.old HB15.out))
      go_ret
      exact ⟨rfl, .of_below HBF.out⟩

/-! The row's step. -/
set_option maxRecDepth 100000 in
theorem lifted (os : Os) (started : os.Started) (H : Type) (enc : TypeId × Value → H) :
    ReturnsInHanded {} Try.checked os 14 .any (Rows.turnTicketsSpec.pre6 enc Try.prog Try.f14 Rows.turnTicketsRow.domain false) (Rows.turnTicketsSpec.post enc Try.prog Try.f14 false true false false) := by
  refine returnsInHanded_of_change (C := Try.checked) own started (by kernel_rfl) Try.func14
    (ChangeSpec.witness6 (enc := enc) (C := Try.checked) false ⟨#[], #[.agg #[.int .i64 0, .int .i64 0, .int .i64 0, .int .i64 0, .int .i64 0], .int .i64 0], []⟩ 8 (by kernel_rfl) (by kernel_rfl) (by kernel_rfl) (by kernel_rfl)) ?_
  intro W base args ds gs before hval0 hW hcnd _
  have hval : ∀ (j : Nat) t v, Try.f14.params[j]? = some t → args[j]? = some v → Value.okWide Try.prog W .any base t v := hval0
  have hW' := hW
  obtain ⟨p, q, hA0, hV, rfl, hfz, hnd⟩ := hW
  have hA : DataW.TrodAll enc Try.prog W 0 (fun _ => true) true Try.f14.params.toList args.toList ds p := hA0
  rw [Try.params14] at hA hval
  obtain ⟨v0, vs0, d0, ds0, p0, q0, hargs, rfl, rfl, h0, r0⟩ := trodAll_cons hA
  obtain ⟨v1, vs1, d1, ds1, p1, q1, rfl, rfl, rfl, h1, r1⟩ := trodAll_cons r0
  obtain ⟨rfl, rfl, rfl⟩ := trodAll_nil r1
  obtain rfl : args = #[v0, v1] := by cases args; simp_all
  obtain ⟨rfl, rfl⟩ := trodVars_none hV
  have hk : ∀ W', Kept W W' → Rows.turnTicketsSpec.post enc Try.prog Try.f14 false true false false W #[v0, v1] (.bool true) W' := fun W' hb =>
    post_law laidOut readable rfl Try.underlying4 rfl hW' rfl hb
  clear hA0 hval0 hA hW'
  obtain ⟨x0_0, x0_1, x0_2, x0_3, x0_4, rfl, wx0_0, wx0_1, wx0_2, wx0_3, wx0_4⟩ := LayO.open_arr5 (hval 0 22 v0 rfl rfl) h0
  obtain ⟨a1, rfl, rfl, rfl, w1⟩ := open_int Try.underlying3 (hval 1 3 v1 rfl rfl) h1
  refine (walk W x0_0 x0_1 x0_2 x0_3 x0_4 wx0_0 wx0_1 wx0_2 wx0_3 wx0_4 a1 w1).mono fun e W' ⟨he, hg⟩ => ?_
  subst he
  exact ⟨_, rfl, hk W' hg⟩

theorem over : Rows.turnTicketsRow.holds Try.pinned (OpenSpec.ofChange Rows.turnTicketsSpec) :=
  OpenClaim.holds_of_wide 14 Try.f14 rfl rfl rfl rfl rfl rfl rfl ⟨rfl, rfl, rfl, rfl, rfl⟩ rfl rfl rfl rfl rfl (by kernel_rfl) Try.func14 (by kernel_rfl)
    (of_decide_eq_true (by kernel_rfl)) (by unfold Func.isWrapper; first | (rw [if_pos (by decide +kernel)]; kernel_rfl) | (rw [if_neg (by decide +kernel)]; exact ⟨rfl, rfl⟩))
    (fun os started H enc _ => lifted os started H enc)

/-- The statement. -/
theorem proved : Rows.TurnTicketsSaid :=
  over
#print axioms proved
end Go.Proofs.Ytpdmmblcjidekaa.turnTickets
