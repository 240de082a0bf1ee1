/-
  Proved: entering and leaving make the operations of the document, step by step, at any clock. No condition.
-/
import Derived.Test.YthgbfghhiadjpaaRows
import Derived.WalkKit
import Derived.ProofKit
import Derived.OpenShut
import Derived.Test.YthgbfghhiadjpaaFrame
import Derived.Test.YthgbfghhiadjpaaEpoL
import Derived.Test.YthgbfghhiadjpaaLayO
import Derived.Test.YthgbfghhiadjpaaEpoE
import Derived.Deep.RegionLaw
import Derived.Deep.RegionHeld3
namespace Go.Proofs.Ythgbfghhiadjpaa.epochEnters
open Go.ChangeShapes Go.WideShapes Go.ChangeAt Go.RowKit
open LawFrame
open Go.ChangeMaps (open_string)
set_option linter.unusedVariables false

theorem own : ownKnob Try.prog.godebug = none := by kernel_rfl
theorem laidOut : laidOutB Try.prog = true := by kernel_rfl

open PlainT BlkW LayS LayA LayH LayK LayO LayP CelS CelM CelP CelV CelN CelO CelI CelF CelB LabD LabR LabP LabS WordC EpoA EpoF EpoS EpoE EpoB
set_option maxHeartbeats 4000000
set_option maxRecDepth 100000
theorem eV_ex (A : Int → List Int) (t : Nat) (c : Int) (i : Nat) : ∃ k1 k2 k3 k4 k5 d, eV A t c i = (k1, k2, k3, k4, k5, d) := ⟨_, _, _, _, _, _, rfl⟩
/-- The box of the pair. -/
def HP0 (gp b rb : Nat) (w : World) : Prop := Mem w gp TP #[.pointer (some ⟨b, 0, none⟩), .pointer (some ⟨rb, 0, none⟩)]
theorem HP0.lt {gp b rb : Nat} {w : World} (h : HP0 gp b rb w) : gp < w.heap.size := Mem.lt h
theorem hp0_of {gp b rb : Nat} {w : World} (h : HP0 gp b rb w) : w.cell? ⟨gp, 0, none⟩ = some (.pointer (some ⟨b, 0, none⟩)) ∧ w.cell? ⟨gp, 1, none⟩ = some (.pointer (some ⟨rb, 0, none⟩)) ∧ HP0 gp b rb w := ⟨Mem.cell h 0, Mem.cell h 1, h⟩
theorem hp0_below {gp b rb : Nat} {w w' : World} (h : HP0 gp b rb w) (k : Below w.heap.size w w') : HP0 gp b rb w' := Mem.below h k h.lt

theorem readable : ∀ t ∈ Try.f10.params.toList, Try.prog.readableRec t = true ∧ t < Try.prog.types.size := by
  have h : (Try.f10.params.toList.all fun t => Try.prog.readableRec t && decide (t < Try.prog.types.size)) = true := by kernel_rfl
  intro t ht
  have := List.all_eq_true.1 h t ht
  simpa using this

/-! The walk. -/
theorem walk (w : World) (x0_0 x0_1 x0_2 x0_3 x0_4 : Int) (wx0_0 : LayS.InI x0_0) (wx0_1 : LayS.InI x0_1) (wx0_2 : LayS.InI x0_2) (wx0_3 : LayS.InI x0_3) (wx0_4 : LayS.InI x0_4) (a1 : Int) (w1 : (Lit.int .i64 a1).wf = true) (a2 : Int) (w2 : (Lit.int .u64 a2).wf = true) :
    Calls Try.prog 10 #[.agg #[.int .i64 x0_0, .int .i64 x0_1, .int .i64 x0_2, .int .i64 x0_3, .int .i64 x0_4], .int .i64 a1, .int .u64 a2] w fun e w' => e = .returned (.bool true) ∧ Kept w w' := by
  show Calls _ _ #[.agg _, _, _] _ _
  clear wx0_0 wx0_1 wx0_2 wx0_3 wx0_4
  have hb2 := bounds_u64 w2
  clear w1 w2
  have HB0 := Lib.hid (below_new w (.cells #[.int .i64 x0_0, .int .i64 x0_1, .int .i64 x0_2, .int .i64 x0_3, .int .i64 x0_4] 22))
  go_enter Try.func10, Try.ntmps10
  go_upto_region 2 with (go_at_call 34; refine (l_small _ _ _ _ _ _).mono ?_; rintro e w1 ⟨q, A0', lo, hi, b, rb, rfl, hst⟩)
  obtain ⟨w0, hw0⟩ : ∃ w0, w.alloc (.cells #[.int .i64 x0_0, .int .i64 x0_1, .int .i64 x0_2, .int .i64 x0_3, .int .i64 x0_4] 22) = w0 := ⟨_, rfl⟩
  rw [hw0] at HB0 hst
  clear hw0
  obtain ⟨_, ⟨n, no, _, _, hA0⟩, hd, hlo, hbo⟩ := hst
  have hA3 : A0' 3 = [0] := by rw [hA0]; rfl
  have hA6 : (A0' 6).length = 4 := by rw [hA0]; rfl
  clear hA0
  have HD := Lib.hid (hd.alloc (.cells #[.pointer (some ⟨b, 0, none⟩), .pointer (some ⟨rb, 0, none⟩)] TP))
  have HBO := Lib.hid (hbo.alloc hbo.size (.cells #[.pointer (some ⟨b, 0, none⟩), .pointer (some ⟨rb, 0, none⟩)] TP))
  have HP := Lib.hid (Mem.new w1 TP #[.pointer (some ⟨b, 0, none⟩), .pointer (some ⟨rb, 0, none⟩)])
  have hgt := hd.top
  have hle := duo_le hd
  obtain ⟨gp, hgp⟩ : ∃ gp, w1.heap.size = gp := ⟨_, rfl⟩
  rw [hgp] at HP hgt
  first | rw [hgp] | skip
  obtain ⟨W1, hW1⟩ : ∃ W1, w1.alloc (.cells #[.pointer (some ⟨b, 0, none⟩), .pointer (some ⟨rb, 0, none⟩)] TP) = W1 := ⟨_, rfl⟩
  rw [hW1] at HD HBO HP
  first | rw [hW1] | skip
  clear hW1 hgp hd hbo
  have c0 := HP.out.cell 0
  have c1 := HP.out.cell 1
  simp at c0 c1
  go_upto_region 3 with (go_at_call 16; refine (k_place_ex _ _ (by omega) (by omega) _).mono ?_; rintro e w2 ⟨p, p0, p1, rfl, rfl⟩)
  obtain ⟨t, ht⟩ : ∃ t : Nat, p = t := ⟨p.toNat, by omega⟩
  subst ht
  have ht4 : t < 4 := by omega
  clear p0 p1
  go_upto_region 4 with (fail)
  obtain ⟨c, hc⟩ : ∃ c, a2 % 1099511627777 = c := ⟨_, rfl⟩
  rw [hc]
  have h0 : 0 ≤ c := by omega
  have h1 : c ≤ 1099511627776 := by omega
  clear hc hb2
  have hset := p_set HD.out 3 (by decide) 0 (by rw [hA3]; exact Nat.zero_lt_one) (by rw [hA3]; exact Nat.zero_lt_one) 0 (by rw [hA3]; rfl) (by rw [hA3]; rfl) c
  go_upto_region 6 with (go_at_call 35; refine hset.mono ?_; rintro e w3 ⟨rfl, hD3, hS3⟩)
  have HD3 := Lib.hid ((hD3.alloc (.cells #[.int .i64 0, .int .i64 t, .int .i64 (-1)] 123)).alloc (.cells #[.int .i64 t, .int .i64 0, .int .i64 (-1)] 78))
  have HBO3 := Lib.hid (((HBO.out.trans (hS3.below hlo HBO.out.size)).alloc (Nat.le_trans HBO.out.size hS3.size) (.cells #[.int .i64 0, .int .i64 t, .int .i64 (-1)] 123)).alloc (by rw [size_new]; have := HBO.out.size; have := hS3.size; omega) (.cells #[.int .i64 t, .int .i64 0, .int .i64 (-1)] 78))
  have HP3 := Lib.hid ((Mem.alloc (Mem.of_eq HP.out (hS3.block gp HP.out.lt (.inr hgt))) (.cells #[.int .i64 0, .int .i64 t, .int .i64 (-1)] 123)).alloc (.cells #[.int .i64 t, .int .i64 0, .int .i64 (-1)] 78))
  have HA3 := Lib.hid (Mem.alloc (Mem.new w3 123 #[.int .i64 0, .int .i64 t, .int .i64 (-1)]) (.cells #[.int .i64 t, .int .i64 0, .int .i64 (-1)] 78))
  have HB3 := Lib.hid (mem_new1 w3 (.cells #[.int .i64 0, .int .i64 t, .int .i64 (-1)] 123) 78 #[.int .i64 t, .int .i64 0, .int .i64 (-1)])
  have hg3 : gp < w3.heap.size := Nat.lt_of_lt_of_le HP.out.lt hS3.size
  clear hset hD3 hS3 HD HBO HP c0 c1
  go_upto_region 7 with (first
    | (go_at_call 36; refine (e_new _ _).mono ?_; rintro e w4 ⟨rfl, rfl⟩)
    | (go_at_call 37; refine (s_new _ _).mono ?_; rintro e w5 ⟨rfl, rfl⟩))
  obtain ⟨ga, hga⟩ : ∃ ga, w3.heap.size = ga := ⟨_, rfl⟩
  rw [hga] at HA3 HB3 hg3
  first | rw [hga] | skip
  obtain ⟨W4, hW4⟩ : ∃ W4, (w3.alloc (.cells #[.int .i64 0, .int .i64 t, .int .i64 (-1)] 123)).alloc (.cells #[.int .i64 t, .int .i64 0, .int .i64 (-1)] 78) = W4 := ⟨_, rfl⟩
  rw [hW4] at HD3 HBO3 HP3 HA3 HB3
  first | rw [hW4] | skip
  obtain ⟨A, hA⟩ : ∃ A, upd A0' 3 0 c = A := ⟨_, rfl⟩
  rw [hA] at HD3
  have hA3c : A 3 = [c] := by rw [← hA]; simp [upd, hA3]
  have hA6c : t < (A 6).length := by rw [← hA, upd_ne (by decide), hA6]; exact ht4
  have HES : Hid (ES w0 lo hi b rb q A t c gp ga (ga + 1) 0 0 W4) := Lib.hid ⟨HD3.out, HP3.out, HA3.out, HB3.out, HBO3.out, ⟨hlo, hle, hgt, hg3, Nat.lt_succ_self _⟩, hA6c, hA3c, h0, h1⟩
  clear HD3 HBO3 HP3 HA3 HB3 hW4 hga hA hA3 hA6 hA3c hA6c ht4 hlo hle hgt hg3 h0 h1
  go_wp2_with fail
  go_loopw [13] (fun iv wr => ∃ i : Nat, i ≤ 5 ∧ iv = .int .i64 i ∧ ES w0 lo hi b rb q A t c gp ga (ga + 1) i i wr) (fun iv _ => 5 - (intOf iv).toNat)
  case atStart => exact ⟨0, by omega, rfl, HES.out⟩
  case round =>
    clear HES
    obtain ⟨i, hi5, rfl, hes⟩ := hrel
    by_cases hlt : i < 5
    · have hltI : (i : Int) < 5 := by omega
      obtain ⟨k1, k2, k3, k4, k5, d, hv⟩ := eV_ex A t c i
      have HV := Lib.hid hv
      have HE := Lib.hid hes.drew
      have q0 := HE.out.p0
      have q1 := HE.out.p1
      have q2 := HE.out.rv
      obtain ⟨D, hD⟩ : ∃ D, (eS i == 3) = D := ⟨_, rfl⟩
      obtain ⟨N, hN⟩ : ∃ N, eN c i = N := ⟨_, rfl⟩
      have hda := a_done HE.out
      have hdb := b_done HE.out
      have hsn := a_snap HE.out
      rw [hD] at hda hdb
      rw [hN] at hsn q2
      clear hv hes hD hN
      go_wp2_with fail
      first | go_region_law (first
        | (go_simp; go_at_call 38; (with_reducible refine hda.mono ?_); rintro e w5 ⟨rfl, rfl⟩)
        | (go_simp; go_at_call 39; (with_reducible refine hdb.mono ?_); rintro e w5 ⟨rfl, rfl⟩)
        | (go_simp; go_at_call 40; (with_reducible refine hsn.mono ?_); rintro e w5 ⟨rfl, rfl⟩)
        | (go_simp; go_at_call 41; (with_reducible refine (a_step HE.out HV).mono ?_); rintro e w6 ⟨rfl, hE6⟩; have q3 := hE6.p0; have q4 := hE6.p1)
        | (go_simp; go_at_call 42; (with_reducible refine (b_step hE6 HV).mono ?_); rintro e w7 ⟨rfl, hE7⟩; have q5 := hE7.p0; have q6 := hE7.p1)
        | (go_simp; go_at_call 43; (with_reducible refine (ab_same hE7).mono ?_); rintro e w8 ⟨rfl, hE8⟩)) | fail
      all_goals
        go_wp2_with fail
        go_roundw
        case rel => exact ⟨i + 1, by omega, by go_num, hE8⟩
        case measure => simp [intOf]; omega
    · obtain rfl : i = 5 := by omega
      have HE := Lib.hid hes.drew
      have hda : Calls Try.prog 38 #[.pointer (some ⟨ga, 0, none⟩)] wr.drew fun e w' => e = .returned (.bool true) ∧ wr.drew = w' := a_done HE.out
      obtain ⟨E, hE⟩ : ∃ E, eA A t c 5 = E := ⟨_, rfl⟩
      have hd := HE.out.duo
      rw [hE] at hd
      have htE : t < (E 6).length := by rw [← hE, eA_len]; exact HE.out.ar.1
      obtain ⟨x, hx⟩ : ∃ x, (E 6).getD t 0 = x := ⟨_, rfl⟩
      have hla := e_leave hd t htE x hx
      have hlb : ∀ W, Duo lo hi W b rb q (upd E 6 t 0) E → Calls Try.prog 45 #[.pointer (some ⟨rb, 0, none⟩), .int .i64 t] W fun e w' => e = .returned (accV 2 6 t x 0 true) ∧ Duo lo hi w' b rb q (upd E 6 t 0) (upd E 6 t 0) ∧ Stay lo hi W w' := fun W hw => s_leave hw t htE x hx
      have hgt := HE.out.st.2.2.1
      have hs0 : HP0 gp b rb wr.drew := HE.out.pa
      have hkeep : ∀ W W', HP0 gp b rb W → Stay lo hi W W' → HP0 gp b rb W' := fun W W' h k => Mem.of_eq h (k.block gp h.lt (.inr hgt))
      clear hE hd htE hx hes
      go_wp2_with fail
      go_region_held3 (fun W => W.cell? ⟨gp, 0, none⟩ = some (.pointer (some ⟨b, 0, none⟩)) ∧ W.cell? ⟨gp, 1, none⟩ = some (.pointer (some ⟨rb, 0, none⟩)) ∧ HP0 gp b rb W) (first | exact hp0_of hs0 | exact hp0_of (by assumption) | exact hp0_of (hkeep _ _ (by assumption) (by assumption)) | exact hp0_of (hp0_below (by assumption) (by assumption)) | assumption) (first
        | (go_at_call 38; (with_reducible refine hda.mono ?_); rintro e w5 ⟨rfl, rfl⟩)
        | (go_at_call 44; (with_reducible refine hla.mono ?_); rintro e w6 ⟨rfl, hD6, hS6⟩; have hq6 := hkeep _ _ hs0 hS6)
        | (go_at_call 45; (with_reducible refine (hlb _ hD6).mono ?_); rintro e w7 ⟨rfl, hD7, hS7⟩; have hq7 := hkeep _ _ hq6 hS7)
        | (go_at_call 43; (with_reducible refine (p_same hD7).mono ?_); rintro e w8 ⟨rfl, hD8, hS8⟩; have hq8 := hkeep _ _ hq7 hS8)
        | (go_at_call 46; (with_reducible refine (EpoL.l_awake _).mono ?_); rintro e w9 ⟨rfl, hb9⟩; have hq9 := hp0_below hq8 hb9))
      have hlo := HE.out.st.1
      have h1 := HE.out.old.trans (hS6.below hlo HE.out.old.size)
      have h2 := h1.trans (hS7.below hlo h1.size)
      have h3 := h2.trans (hS8.below hlo h2.size)
      have HBF := Lib.hid (below_trans2 HB0.out (below_trans2 h3 hb9))
      clear h1 h2 h3
      go_wp2
      go_ret
      exact ⟨rfl, .of_below HBF.out⟩

/-! The row's step. -/
set_option maxRecDepth 100000 in
theorem lifted (os : Os) (started : os.Started) (H : Type) (enc : TypeId × Value → H) :
    ReturnsInHanded {} Try.checked os 10 .any (Rows.epochEntersSpec.pre6 enc Try.prog Try.f10 Rows.epochEntersRow.domain false) (Rows.epochEntersSpec.post enc Try.prog Try.f10 false true false false) := by
  refine returnsInHanded_of_change (C := Try.checked) own started (by kernel_rfl) Try.func10
    (ChangeSpec.witness6 (enc := enc) (C := Try.checked) false ⟨#[], #[.agg #[.int .i64 0, .int .i64 0, .int .i64 0, .int .i64 0, .int .i64 0], .int .i64 0, .int .u64 0], []⟩ 8 (by kernel_rfl) (by kernel_rfl) (by kernel_rfl) (by kernel_rfl)) ?_
  intro W base args ds gs before hval0 hW hcnd _
  have hval : ∀ (j : Nat) t v, Try.f10.params[j]? = some t → args[j]? = some v → Value.okWide Try.prog W .any base t v := hval0
  have hW' := hW
  obtain ⟨p, q, hA0, hV, rfl, hfz, hnd⟩ := hW
  have hA : DataW.TrodAll enc Try.prog W 0 (fun _ => true) true Try.f10.params.toList args.toList ds p := hA0
  rw [Try.params10] at hA hval
  obtain ⟨v0, vs0, d0, ds0, p0, q0, hargs, rfl, rfl, h0, r0⟩ := trodAll_cons hA
  obtain ⟨v1, vs1, d1, ds1, p1, q1, rfl, rfl, rfl, h1, r1⟩ := trodAll_cons r0
  obtain ⟨v2, vs2, d2, ds2, p2, q2, rfl, rfl, rfl, h2, r2⟩ := trodAll_cons r1
  obtain ⟨rfl, rfl, rfl⟩ := trodAll_nil r2
  obtain rfl : args = #[v0, v1, v2] := by cases args; simp_all
  obtain ⟨rfl, rfl⟩ := trodVars_none hV
  have hk : ∀ W', Kept W W' → Rows.epochEntersSpec.post enc Try.prog Try.f10 false true false false W #[v0, v1, v2] (.bool true) W' := fun W' hb =>
    post_law laidOut readable rfl Try.underlying4 rfl hW' rfl hb
  clear hA0 hval0 hA hW'
  obtain ⟨x0_0, x0_1, x0_2, x0_3, x0_4, rfl, wx0_0, wx0_1, wx0_2, wx0_3, wx0_4⟩ := LayO.open_arr5 (hval 0 22 v0 rfl rfl) h0
  obtain ⟨a1, rfl, rfl, rfl, w1⟩ := open_int Try.underlying3 (hval 1 3 v1 rfl rfl) h1
  obtain ⟨a2, rfl, rfl, rfl, w2⟩ := open_int Try.underlying29 (hval 2 29 v2 rfl rfl) h2
  refine (walk W x0_0 x0_1 x0_2 x0_3 x0_4 wx0_0 wx0_1 wx0_2 wx0_3 wx0_4 a1 w1 a2 w2).mono fun e W' ⟨he, hg⟩ => ?_
  subst he
  exact ⟨_, rfl, hk W' hg⟩

theorem over : Rows.epochEntersRow.holds Try.pinned (OpenSpec.ofChange Rows.epochEntersSpec) :=
  OpenClaim.holds_of_wide 10 Try.f10 rfl rfl rfl rfl rfl rfl rfl ⟨rfl, rfl, rfl, rfl, rfl⟩ rfl rfl rfl rfl rfl (by kernel_rfl) Try.func10 (by kernel_rfl)
    (of_decide_eq_true (by kernel_rfl)) (by unfold Func.isWrapper; first | (rw [if_pos (by decide +kernel)]; kernel_rfl) | (rw [if_neg (by decide +kernel)]; exact ⟨rfl, rfl⟩))
    (fun os started H enc _ => lifted os started H enc)

/-- The statement. -/
theorem proved : Rows.EpochEntersSaid :=
  over
#print axioms proved
end Go.Proofs.Ythgbfghhiadjpaa.epochEnters
