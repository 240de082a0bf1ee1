/-
  Proved: machines make the operations of the document, step by step, under every schedule of steps and passes, also from any counters. No condition.
-/
import Derived.Test.YtpdmmblcjidekaaRows
import Derived.WalkKit
import Derived.ProofKit
import Derived.OpenShut
import Derived.Test.YtpdmmblcjidekaaFrame
import Derived.Test.YtpdmmblcjidekaaTurL
import Derived.Test.YtpdmmblcjidekaaLayO
import Derived.Test.YtpdmmblcjidekaaTurD
import Derived.Deep.RegionHeld3
import Derived.Deep.RegionLaw
import Derived.Deep.Cut
import Derived.Deep.DeepCutAuto
import Derived.Deep.CutBlock
namespace Go.Proofs.Ytpdmmblcjidekaa.turnFollows
open Go.ChangeShapes Go.WideShapes Go.ChangeAt Go.RowKit
open LawFrame
open Go.ChangeMaps (open_string)
set_option linter.unusedVariables false

theorem own : ownKnob Try.prog.godebug = none := by kernel_rfl
theorem laidOut : laidOutB Try.prog = true := by kernel_rfl
theorem cells3 : Try.prog.cellsOf 3 = 1 := by kernel_rfl

open PlainT BlkW LayS LayA LayH LayK LayO LayP CelS CelM CelP CelV CelN CelO CelI CelB LabD LabR LabP LabS TurA TurB TurD
set_option maxHeartbeats 4000000
set_option maxRecDepth 100000
theorem iat {w0 w : World} {A : Option Addr} {n : Nat} {z : List Int} (h : Ints .i64 w0 A n z) (ho : Below w0.heap.size w0 w) {k : Nat} (hk : k < n) : ∃ b off x, A = some ⟨b, off, none⟩ ∧ b < w0.heap.size ∧ w.cell? ⟨b, off + k, none⟩ = some (.int .i64 x) := by
  obtain ⟨h1, h2, h3⟩ := h
  obtain ⟨b, off, rfl, hb, hc⟩ := h3 (by omega)
  exact ⟨b, off, _, rfl, hb, (World.cell?_of_block (ho.block b hb)).trans (hc k hk)⟩
theorem pt_nil (o : Th) : ∃ a z, pa o = .pointer a ∧ o.isNone = z ∧ ∀ w, (binOp BinOp.eql 87 (.pointer a) (.pointer none)).run Try.prog w = .ok (.bool z) w := by
  cases o with
  | none => exact ⟨none, true, rfl, rfl, fun w => by kernel_rfl⟩
  | some x =>
    obtain ⟨x, y, st, k⟩ := x
    exact ⟨some ⟨x, 0, none⟩, false, rfl, rfl, fun w => by kernel_rfl⟩
theorem pt_none {a : Option Addr} (h : pa none = .pointer a) : none = a := by injection h
theorem pt_some {a : Option Addr} {x y st : Nat} {k : Int} (h : pa (some (x, y, st, k)) = .pointer a) : some ⟨x, 0, none⟩ = a := by injection h
theorem tf_begun {w0 w : World} {q : Cfg} {A : Int → List Int} {lo hi b rb : Nat} (h : Begun w0 q A lo hi b rb w) : Duo lo hi w b rb q A A ∧ A 4 = [0] ∧ A 5 = [0] ∧ w0.heap.size ≤ lo ∧ lo ≤ hi ∧ Below w0.heap.size w0 w := by
  have hle := (ct_begun h).le
  obtain ⟨_, ⟨n, no, _, _, rfl⟩, hd, hlo, hb⟩ := h
  exact ⟨hd, rfl, rfl, hlo, hle, hb⟩
theorem sy_fr {b rb gp ga gb t x y st : Nat} {p : Nat → Th} {k : Int} {h2 : Bool} {P : Nat → Prop} {W W' : World} (h : SY b rb gp ga gb t x y p st h2 k W) (s : Fr P W W') (h0 : ¬ P gp) (h1 : ¬ P ga) (h3 : ¬ P gb) (h4 : ¬ P y) (t3 : t ≤ 3) (ho : p t = some (x, y, st, k)) (e : (st == 2) = h2) : SY b rb gp ga gb t x y p st h2 k W' :=
  sy_of (h.2.2.2.2.2.2.1.fr s h0 h1 h3) (mem_fr h.2.2.2.2.2.2.2.out s h4) t3 ho e
theorem sy_stay {lo hi b rb gp ga gb t x y st : Nat} {p : Nat → Th} {k : Int} {h2 : Bool} {W W' : World} (h : SY b rb gp ga gb t x y p st h2 k W) (s : Stay lo hi W W') (h0 : hi ≤ gp) (h1 : hi ≤ ga) (h3 : hi ≤ gb) (h4 : hi ≤ y) (t3 : t ≤ 3) (ho : p t = some (x, y, st, k)) (e : (st == 2) = h2) : SY b rb gp ga gb t x y p st h2 k W' :=
  sy_fr h (Fr.of_stay (P := PI lo hi) s (fun x a c => ⟨a, c⟩)) (by unfold PI; omega) (by unfold PI; omega) (by unfold PI; omega) (by unfold PI; omega) t3 ho e
theorem p2_stay {lo hi x y : Nat} {W W' : World} (s : Stay lo hi W W') : Fr (P2 lo hi x y) W W' := Fr.of_stay s (fun x a c => .inl ⟨a, c⟩)
theorem p2_pg {lo hi x y g : Nat} (h : PG lo hi x g) : P2 lo hi x y g := by
  unfold PG at h
  unfold P2
  omega
theorem p2_pgy {lo hi x y g : Nat} (h : PG lo hi y g) : P2 lo hi x y g := by
  unfold PG at h
  unfold P2
  omega

theorem readable : ∀ t ∈ Try.f11.params.toList, Try.prog.readableRec t = true ∧ t < Try.prog.types.size := by
  have h : (Try.f11.params.toList.all fun t => Try.prog.readableRec t && decide (t < Try.prog.types.size)) = true := by kernel_rfl
  intro t ht
  have := List.all_eq_true.1 h t ht
  simpa using this

/-! The walk. -/
theorem walk (w : World) (x0_0 x0_1 x0_2 x0_3 x0_4 : Int) (wx0_0 : LayS.InI x0_0) (wx0_1 : LayS.InI x0_1) (wx0_2 : LayS.InI x0_2) (wx0_3 : LayS.InI x0_3) (wx0_4 : LayS.InI x0_4) (a1 : Int) (w1 : (Lit.int .u64 a1).wf = true) (a2 : Int) (w2 : (Lit.int .u64 a2).wf = true) (A3 : Option Addr) (n3 c3 : Nat) (z3 : List Int) (l3 : n3 ≤ c3) (m3 : c3 ≤ maxLen) (s3 : Ints .i64 w A3 n3 z3) :
    Calls Try.prog 11 #[.agg #[.int .i64 x0_0, .int .i64 x0_1, .int .i64 x0_2, .int .i64 x0_3, .int .i64 x0_4], .int .u64 a1, .int .u64 a2, .slice A3 n3 c3] w fun e w' => e = .returned (.bool true) ∧ Kept w w' := by
  show Calls _ _ #[.agg _, _, _, _] _ _
  clear wx0_0 wx0_1 wx0_2 wx0_3 wx0_4
  have hb1 := bounds_u64 w1
  have hb2 := bounds_u64 w2
  have HZ := Lib.hid s3
  clear s3 w1 w2
  have HB0 := Lib.hid (below_new w (.cells #[.int .i64 x0_0, .int .i64 x0_1, .int .i64 x0_2, .int .i64 x0_3, .int .i64 x0_4] 22))
  go_enter Try.func11, Try.ntmps11
  by_cases hbig : (60 : Int) < n3
  · go_wp2_with fail
    refine (TurL.l_awake _).mono ?_
    rintro e w3 ⟨rfl, hb1⟩
    have HB1 := Lib.hid (below_trans2 HB0.out hb1)
    clear hb1
    go_wp2
    go_ret
    exact ⟨rfl, .of_below HB1.out⟩
  · have hn80 : (n3 : Int) ≤ 60 := by omega
    clear hbig
    have eT : a1.tmod 1000 = a1 % 1000 := Int.tmod_eq_emod_of_nonneg (by omega)
    have eS : a2.tmod 1000 = a2 % 1000 := Int.tmod_eq_emod_of_nonneg (by omega)
    obtain ⟨T0, hT0⟩ : ∃ T0, a1.tmod 1000 = T0 := ⟨_, rfl⟩
    obtain ⟨S0, hS0⟩ : ∃ S0, a2.tmod 1000 = S0 := ⟨_, rfl⟩
    have bT0 : 0 ≤ T0 ∧ T0 ≤ 999 := by omega
    have bS0 : 0 ≤ S0 ∧ S0 ≤ 999 := by omega
    clear eT eS
    clear hb1 hb2
    go_upto_region 4 with (go_at_call 28; refine (l_small _ _ _ _ _ _).mono ?_; rintro e w1 ⟨q, A, lo, hi, b, rb, rfl, hst⟩)
    obtain ⟨w0, hw0⟩ : ∃ w0, w.alloc (.cells #[.int .i64 x0_0, .int .i64 x0_1, .int .i64 x0_2, .int .i64 x0_3, .int .i64 x0_4] 22) = w0 := ⟨_, rfl⟩
    rw [hw0] at HB0 hst
    clear hw0
    obtain ⟨hD0, hA4, hA5, hlo, hle, hB1⟩ := tf_begun hst
    clear hst
    have HMp := Lib.hid (Mem.new w1 TP #[.pointer (some ⟨b, 0, none⟩), .pointer (some ⟨rb, 0, none⟩)])
    have HD1 := Lib.hid (hD0.alloc (.cells #[.pointer (some ⟨b, 0, none⟩), .pointer (some ⟨rb, 0, none⟩)] TP))
    have HB1 := Lib.hid (hB1.trans ((below_new w1 (.cells #[.pointer (some ⟨b, 0, none⟩), .pointer (some ⟨rb, 0, none⟩)] TP)).mono hB1.size))
    have htop := hD0.top
    obtain ⟨gp, hgp⟩ : ∃ gp, w1.heap.size = gp := ⟨_, rfl⟩
    rw [hgp] at HMp htop
    first | rw [hgp] | skip
    obtain ⟨W1, hW⟩ : ∃ W', w1.alloc (.cells #[.pointer (some ⟨b, 0, none⟩), .pointer (some ⟨rb, 0, none⟩)] TP) = W' := ⟨_, rfl⟩
    rw [hW] at HMp HD1 HB1
    first | rw [hW] | skip
    clear hW hgp hD0 hB1
    have r0 := Mem.cell HMp.out 0
    have r1 := Mem.cell HMp.out 1
    simp at r0 r1
    have hs1 : Calls Try.prog 29 #[pairV b rb, .int .i64 4, .int .i64 0, .int .u64 T0] W1 fun e w' => e = .returned (.bool true) ∧ Duo lo hi w' b rb q (upd A 4 0 T0) (upd A 4 0 T0) ∧ Stay lo hi W1 w' := p_set HD1.out 4 (by decide) 0 (by rw [hA4]; exact Nat.zero_lt_one) (by rw [hA4]; exact Nat.zero_lt_one) 0 (by rw [hA4]; rfl) (by rw [hA4]; rfl) T0
    have hs2 : ∀ W, Duo lo hi W b rb q (upd A 4 0 T0) (upd A 4 0 T0) → Calls Try.prog 29 #[pairV b rb, .int .i64 5, .int .i64 0, .int .u64 S0] W fun e w' => e = .returned (.bool true) ∧ Duo lo hi w' b rb q (upd (upd A 4 0 T0) 5 0 S0) (upd (upd A 4 0 T0) 5 0 S0) ∧ Stay lo hi W w' := fun W hw =>
      p_set hw 5 (by decide) 0 (by rw [upd_ne (by decide), hA5]; exact Nat.zero_lt_one) (by rw [upd_ne (by decide), hA5]; exact Nat.zero_lt_one) 0 (by rw [upd_ne (by decide), hA5]; rfl) (by rw [upd_ne (by decide), hA5]; rfl) S0
    have HA4 := Lib.hid hA4
    have HA5 := Lib.hid hA5
    clear hA4 hA5
    go_upto_region 6 with (first
      | (go_at_call 29; (with_reducible refine hs1.mono ?_); rintro e w2 ⟨rfl, hD2, hS2⟩; have HM2 := Lib.hid (Mem.of_eq HMp.out (hS2.block gp HMp.out.lt (.inr htop))); have r2 := Mem.cell HM2.out 0; have r3 := Mem.cell HM2.out 1; simp at r2 r3)
      | (go_at_call 29; (with_reducible refine (hs2 _ hD2).mono ?_); rintro e w3 ⟨rfl, hD3, hS3⟩))
    have HM3 := Lib.hid (Mem.of_eq HM2.out (hS3.block gp HM2.out.lt (.inr htop)))
    have HB3 := Lib.hid ((HB1.out.trans (hS2.below hlo HB1.out.size)).trans (hS3.below hlo (Nat.le_trans HB1.out.size hS2.size)))
    have HD3 := Lib.hid hD3
    clear hs1 hs2 hD2 hS2 hD3 hS3 HMp HM2 HD1 HB1 r0 r1 r2 r3
    go_upto_region 8 with (fail)
    have HD4 := Lib.hid ((HD3.out.alloc (.cells #[.pointer none, .pointer none, .pointer none, .pointer none] TA)).alloc (.cells #[.pointer none, .pointer none, .pointer none, .pointer none] TB))
    have HM4 := Lib.hid ((HM3.out.alloc (.cells #[.pointer none, .pointer none, .pointer none, .pointer none] TA)).alloc (.cells #[.pointer none, .pointer none, .pointer none, .pointer none] TB))
    have HP4 := Lib.hid ((Mem.new w3 TA #[.pointer none, .pointer none, .pointer none, .pointer none]).alloc (.cells #[.pointer none, .pointer none, .pointer none, .pointer none] TB))
    have HQ4 := Lib.hid (Mem.new (w3.alloc (.cells #[.pointer none, .pointer none, .pointer none, .pointer none] TA)) TB #[.pointer none, .pointer none, .pointer none, .pointer none])
    have HB4 := Lib.hid ((HB3.out.trans ((below_new w3 (.cells #[.pointer none, .pointer none, .pointer none, .pointer none] TA)).mono HB3.out.size)).trans ((below_new (w3.alloc (.cells #[.pointer none, .pointer none, .pointer none, .pointer none] TA)) (.cells #[.pointer none, .pointer none, .pointer none, .pointer none] TB)).mono (Nat.le_trans HB3.out.size (by rw [size_new]; omega))))
    have hgp3 := HM3.out.lt
    rw [size_new] at HQ4
    obtain ⟨ga, hga⟩ : ∃ ga, w3.heap.size = ga := ⟨_, rfl⟩
    rw [hga] at HP4 HQ4 hgp3
    first | rw [hga] | skip
    have HG : Hid (TF w0 lo hi b rb q gp ga (ga + 1) T0 S0 (fun _ => none) _) := Lib.hid ⟨⟨_, HD4.out, by simp [upd, HA4.out], by simp [upd, HA5.out]⟩, HB4.out, HM4.out, HP4.out, HQ4.out, fun _ _ _ _ _ _ h => by (cases h), fun _ _ => trivial, fun _ _ _ _ _ => trivial, ⟨hlo, hle, htop, hgp3, by omega⟩, by omega⟩
    obtain ⟨gb, hgb⟩ : ∃ gb, ga + 1 = gb := ⟨_, rfl⟩
    rw [hgb] at HG
    first | rw [hgb] | skip
    obtain ⟨W4, hW⟩ : ∃ W', (w3.alloc (.cells #[.pointer none, .pointer none, .pointer none, .pointer none] TA)).alloc (.cells #[.pointer none, .pointer none, .pointer none, .pointer none] TB) = W' := ⟨_, rfl⟩
    rw [hW] at HG
    first | rw [hW] | skip
    clear hW hgb hga hgp3 HD4 HM4 HP4 HQ4 HB4 HD3 HM3 HB3 HA4 HA5 htop hle hlo hT0 hS0
    go_wp2_with fail
    go_loopw [13] (fun iv wr => ∃ (i : Nat) (T S : Int) (p : Nat → Th), iv = .int .i64 i ∧ TF w0 lo hi b rb q gp ga gb T S p wr ∧ i ≤ n3 ∧ T ≤ 999 + i) (fun iv _ => n3 - (intOf iv).toNat)
    case atStart => exact ⟨0, _, _, _, rfl, HG.out, by omega, by omega⟩
    case round =>
      clear HG
      obtain ⟨i, T, S, p, rfl, hrs, hi1, hTi⟩ := hrel
      have HG := Lib.hid hrs
      clear hrs
      by_cases hlt : i < n3
      · have hltI : (i : Int) < n3 := by omega
        obtain ⟨tb, toff, tx, rfl, htb, htc⟩ := iat HZ.out (below_trans2 HB0.out HG.out.old) hlt
        go_upto_region 12 with (go_at_call 16; refine (k_place_ex _ _ (by omega) (by omega) _).mono ?_; rintro e w9 ⟨u, u0, u1, rfl, rfl⟩)
        obtain ⟨t, ht⟩ : ∃ t : Nat, u = t := ⟨u.toNat, by omega⟩
        subst ht
        have t3 : t ≤ 3 := by omega
        have t4 : (t : Int) < 4 := by omega
        clear htc
        obtain ⟨v0, z0, hv0, hz0, hpt0⟩ := pt_nil (p t)
        have hat : wr.cell? ⟨ga, t, none⟩ = some (.pointer v0) := hv0 ▸ aBox_at p HG.out.ar t3
        go_upto_if 54 with fail
        go_cut [14] (fun tv wc => tv = .int .i64 t ∧ ∃ (p' : Nat → Th) (x y st : Nat) (k : Int), Hid (TF w0 lo hi b rb q gp ga gb T S p' wc) ∧ p' t = some (x, y, st, k))
        case first =>
          rcases ho : p t with _ | ⟨x, y, st, k⟩
          · rw [ho] at hv0 hz0
            obtain rfl := pt_none hv0
            obtain rfl : true = z0 := hz0
            clear hpt0
            have hsz := HG.out.br.lt
            have hst := HG.out.st
            have G1 := Lib.hid (((HG.out.ar.drewN 1).alloc (.cells #[.int .i64 0, .int .i64 (-1)] TT)).alloc (.cells #[.int .i64 (-1), .bool false] TQ))
            have G2 := Lib.hid (((HG.out.br.drewN 1).alloc (.cells #[.int .i64 0, .int .i64 (-1)] TT)).alloc (.cells #[.int .i64 (-1), .bool false] TQ))
            have c01 : ((wr.alloc (.cells #[.int .i64 0, .int .i64 (-1)] TT)).drew.alloc (.cells #[.int .i64 (-1), .bool false] TQ)).cell? ⟨ga, t, none⟩ = some (.pointer none) := (show _ = some (pa (p t)) from aBox_at p G1.out t3).trans (by rw [ho]; rfl)
            have c02 : ((wr.alloc (.cells #[.int .i64 0, .int .i64 (-1)] TT)).drew.alloc (.cells #[.int .i64 (-1), .bool false] TQ)).cell? ⟨gb, t, none⟩ = some (.pointer none) := (show _ = some (pb (p t)) from bBox_at p G2.out t3).trans (by rw [ho]; rfl)
            have f01 : ((wr.alloc (.cells #[.int .i64 0, .int .i64 (-1)] TT)).drew.alloc (.cells #[.int .i64 (-1), .bool false] TQ)).frozen? ⟨ga, t, none⟩ = false := G1.out.frozen t
            have f02 : ((wr.alloc (.cells #[.int .i64 0, .int .i64 (-1)] TT)).drew.alloc (.cells #[.int .i64 (-1), .bool false] TQ)).frozen? ⟨gb, t, none⟩ = false := G2.out.frozen t
            have c11 : ((wr.alloc (.cells #[.int .i64 0, .int .i64 (-1)] TT)).alloc (.cells #[.int .i64 (-1), .bool false] TQ)).drew.cell? ⟨ga, t, none⟩ = some (.pointer none) := (show _ = some (pa (p t)) from aBox_at p G1.out t3).trans (by rw [ho]; rfl)
            have c12 : ((wr.alloc (.cells #[.int .i64 0, .int .i64 (-1)] TT)).alloc (.cells #[.int .i64 (-1), .bool false] TQ)).drew.cell? ⟨gb, t, none⟩ = some (.pointer none) := (show _ = some (pb (p t)) from bBox_at p G2.out t3).trans (by rw [ho]; rfl)
            have f11 : ((wr.alloc (.cells #[.int .i64 0, .int .i64 (-1)] TT)).alloc (.cells #[.int .i64 (-1), .bool false] TQ)).drew.frozen? ⟨ga, t, none⟩ = false := G1.out.frozen t
            have f12 : ((wr.alloc (.cells #[.int .i64 0, .int .i64 (-1)] TT)).alloc (.cells #[.int .i64 (-1), .bool false] TQ)).drew.frozen? ⟨gb, t, none⟩ = false := G2.out.frozen t
            have hs1 : (wr.alloc (.cells #[.int .i64 0, .int .i64 (-1)] TT)).drew.heap.size = wr.heap.size + 1 := size_new _ _
            have hab : ga ≠ gb := by omega
            have G3 := Lib.hid ((((HG.out.br.far (a := ⟨ga, t, none⟩) (by show gb ≠ ga; omega) (.pointer (some ⟨wr.heap.size, 0, none⟩))).drewN 1).alloc (.cells #[.int .i64 0, .int .i64 (-1)] TT)).alloc (.cells #[.int .i64 (-1), .bool false] TQ))
            have d02 : (((wr.setCell ⟨ga, t, none⟩ (.pointer (some ⟨wr.heap.size, 0, none⟩))).alloc (.cells #[.int .i64 0, .int .i64 (-1)] TT)).drew.alloc (.cells #[.int .i64 (-1), .bool false] TQ)).cell? ⟨gb, t, none⟩ = some (.pointer none) := (show _ = some (pb (p t)) from bBox_at p G3.out t3).trans (by rw [ho]; rfl)
            have e02 : (((wr.setCell ⟨ga, t, none⟩ (.pointer (some ⟨wr.heap.size, 0, none⟩))).alloc (.cells #[.int .i64 0, .int .i64 (-1)] TT)).drew.alloc (.cells #[.int .i64 (-1), .bool false] TQ)).frozen? ⟨gb, t, none⟩ = false := G3.out.frozen t
            have d12 : (((wr.setCell ⟨ga, t, none⟩ (.pointer (some ⟨wr.heap.size, 0, none⟩))).alloc (.cells #[.int .i64 0, .int .i64 (-1)] TT)).alloc (.cells #[.int .i64 (-1), .bool false] TQ)).drew.cell? ⟨gb, t, none⟩ = some (.pointer none) := (show _ = some (pb (p t)) from bBox_at p G3.out t3).trans (by rw [ho]; rfl)
            have e12 : (((wr.setCell ⟨ga, t, none⟩ (.pointer (some ⟨wr.heap.size, 0, none⟩))).alloc (.cells #[.int .i64 0, .int .i64 (-1)] TT)).alloc (.cells #[.int .i64 (-1), .bool false] TQ)).drew.frozen? ⟨gb, t, none⟩ = false := G3.out.frozen t
            have G4 := Lib.hid ((((HG.out.br.alloc (.cells #[.int .i64 0, .int .i64 (-1)] TT)).alloc (.cells #[.int .i64 (-1), .bool false] TQ)).far (a := ⟨ga, t, none⟩) (by show gb ≠ ga; omega) (.pointer (some ⟨wr.heap.size, 0, none⟩))).drewN 1)
            have d22 : (((wr.alloc (.cells #[.int .i64 0, .int .i64 (-1)] TT)).alloc (.cells #[.int .i64 (-1), .bool false] TQ)).setCell ⟨ga, t, none⟩ (.pointer (some ⟨wr.heap.size, 0, none⟩))).drew.cell? ⟨gb, t, none⟩ = some (.pointer none) := (show _ = some (pb (p t)) from bBox_at p G4.out t3).trans (by rw [ho]; rfl)
            have e22 : (((wr.alloc (.cells #[.int .i64 0, .int .i64 (-1)] TT)).alloc (.cells #[.int .i64 (-1), .bool false] TQ)).setCell ⟨ga, t, none⟩ (.pointer (some ⟨wr.heap.size, 0, none⟩))).drew.frozen? ⟨gb, t, none⟩ = false := G4.out.frozen t
            have hba : gb ≠ ga := by omega
            have hsw : wr.drew.heap.size = wr.heap.size := rfl
            have HN : Hid (TF w0 lo hi b rb q gp ga gb T S (up p t (some (wr.heap.size, wr.heap.size + 1, 0, -1))) ((((wr.alloc (.cells #[.int .i64 0, .int .i64 (-1)] TT)).alloc (.cells #[.int .i64 (-1), .bool false] TQ)).setCell ⟨ga, t, none⟩ (.pointer (some ⟨wr.heap.size, 0, none⟩))).setCell ⟨gb, t, none⟩ (.pointer (some ⟨wr.heap.size + 1, 0, none⟩))).drew) := Lib.hid (tf_new HG.out.drew t3 ho rfl)
            clear G1 G2 G3 G4 hv0
            go_upto_region 13 with fail
            go_region_held3 (fun W => True) (first | trivial) (first
              | (go_at_call 52; (with_reducible refine (t_new _).mono ?_); rintro e w5 ⟨rfl, rfl⟩)
              | (go_at_call 53; (with_reducible refine (s_new _).mono ?_); rintro e w6 ⟨rfl, rfl⟩))
            go_wp2_with fail
            all_goals go_meet
            all_goals exact ⟨rfl, _, _, _, 0, -1, HN, up_at p t _⟩
          · rw [ho] at hv0 hz0
            obtain rfl := pt_some hv0
            obtain rfl : false = z0 := hz0
            clear hpt0
            go_wp2_with fail
            all_goals go_meet
            all_goals exact ⟨rfl, p, x, y, st, k, HG, ho⟩
        case rest =>
          obtain ⟨rfl, p', x, y, st, k, HG', ho⟩ := hcut
          clear HG hat hv0 hz0 hpt0
          have hst := HG'.out.st
          have hcl := HG'.out.cl
          have hok := HG'.out.ok t t3
          rw [ho] at hok
          have hok : _ ∨ _ := hok
          obtain ⟨M, M2, hx, hy, hxy⟩ := HG'.out.en t t3 x y st k ho
          have ha0 : wc.cell? ⟨ga, t, none⟩ = some (.pointer (some ⟨x, 0, none⟩)) := (aBox_at p' HG'.out.ar t3).trans (by rw [ho]; rfl)
          have HM := Lib.hid M
          have HM2 := Lib.hid M2
          clear M M2
          by_cases h2 : st = 2
          · subst h2
            have hdv : (((2 : Nat) : Int) == 2) = true := by decide
            have hdn := t_done x _ _ wc.drew (HM.out.drewN 1)
            have htn := t_ticket x _ _ wc.drew (HM.out.drewN 1)
            rw [hdv] at hdn
            have hsy : SY b rb gp ga gb t x y p' 2 true k wc.drew := sy_of HG'.out.drew.hx (HM2.out.drewN 1) t3 ho rfl
            go_upto_region 16 with fail
            go_region_held3 (SY b rb gp ga gb t x y p' 2 true k) (first | exact hsy | assumption) (first
              | (go_at_call 54; (with_reducible refine hdn.mono ?_); rintro e w12 ⟨rfl, rfl⟩)
              | (go_at_call 55; (with_reducible refine htn.mono ?_); rintro e w13 ⟨rfl, rfl⟩))
            have HG1 := Lib.hid HG'.out.drew
            obtain ⟨W1, hW1⟩ : ∃ W1, wc.drew = W1 := ⟨_, rfl⟩
            rw [hW1] at HG1 hsy ⊢
            clear hdn htn hdv HM HM2 hW1 ha0 HG'
            obtain ⟨M, M2, _⟩ := HG1.out.drew.en t t3 x y 2 k ho
            have HM := Lib.hid M
            clear M
            obtain ⟨y0, y1, g0, g1, ha0, hb0, _, _⟩ := hsy
            obtain ⟨A, hDA, hA4, hA5⟩ := HG1.out.drew.duo
            have hl5 : 0 < (A 5).length := by rw [hA5]; exact Nat.zero_lt_one
            have hpa : Calls Try.prog 56 #[.pointer (some ⟨b, 0, none⟩), .int .i64 k] W1.drew fun e w' => e = .returned (accV 2 5 0 S (k + 1) true) ∧ Duo lo hi w' b rb q (upd A 5 0 (k + 1)) A ∧ Stay lo hi W1.drew w' := t_pass hDA k (by omega) (by omega) S hl5 (by rw [hA5]; rfl)
            have hpb : ∀ W, Duo lo hi W b rb q (upd A 5 0 (k + 1)) A → Calls Try.prog 57 #[.pointer (some ⟨rb, 0, none⟩), .int .i64 k] W fun e w' => e = .returned (accV 2 5 0 S (k + 1) true) ∧ Duo lo hi w' b rb q (upd A 5 0 (k + 1)) (upd A 5 0 (k + 1)) ∧ Stay lo hi W w' := fun W hw => s_pass hw k (by omega) (by omega) S hl5 (by rw [hA5]; rfl)
            have hsy2 : SY b rb gp ga gb t x y p' 2 true k W1.drew := sy_of HG1.out.drew.hx M2 t3 ho rfl
            have hkeep : ∀ W W', SY b rb gp ga gb t x y p' 2 true k W → Stay lo hi W W' → SY b rb gp ga gb t x y p' 2 true k W' := fun W W' h s => sy_stay h s hst.2.2.1 (by omega) (by omega) (by omega) t3 ho rfl
            have hmx : ∀ W W', Mem W x TT (tBox 2 k) → Stay lo hi W W' → Mem W' x TT (tBox 2 k) := fun W W' h s => Mem.of_eq h (s.block x h.lt (.inr (by omega)))
            have hpc : ∀ W, Duo lo hi W b rb q (upd A 5 0 (k + 1)) (upd A 5 0 (k + 1)) → Mem W x TT (tBox 2 k) → Calls Try.prog 58 #[.pointer (some ⟨x, 0, none⟩), .pointer (some ⟨b, 0, none⟩)] W fun e w' => e = .returned (accV 0 0 0 0 0 false) ∧ Duo lo hi w' b rb q (upd A 5 0 (k + 1)) (upd A 5 0 (k + 1)) ∧ Mem w' x TT (tBox 2 k) ∧ Fr (PG lo hi x) W w' := fun W hw hm => t_step2 hw (.inr (by omega)) k hm
            have hk2 : ∀ W W', SY b rb gp ga gb t x y p' 2 true k W → Fr (PG lo hi x) W W' → SY b rb gp ga gb t x y p' 2 true k W' := fun W W' h s => sy_fr h s (by unfold PG; omega) (by unfold PG; omega) (by unfold PG; omega) (by unfold PG; omega) t3 ho rfl
            have HA4 := Lib.hid hA4
            have HA5 := Lib.hid hA5
            clear hDA hA4 hA5 hl5 M2
            go_upto_region 19 with fail
            go_region_held3 (SY b rb gp ga gb t x y p' 2 true k) (first | exact hsy2 | assumption) (first
              | (go_at_call 56; (with_reducible refine hpa.mono ?_); rintro e w4 ⟨rfl, hD4, hS4⟩; have hq4 := hkeep _ _ hsy2 hS4)
              | (go_at_call 57; (with_reducible refine (hpb _ hD4).mono ?_); rintro e w5 ⟨rfl, hD5, hS5⟩; have hq5 := hkeep _ _ hq4 hS5)
              | (go_at_call 37; (with_reducible refine (p_same hD5).mono ?_); rintro e w6 ⟨rfl, hD6, hS6⟩; have hq6 := hkeep _ _ hq5 hS6)
              | (go_at_call 58; (with_reducible refine (hpc _ hD6 (hmx _ _ (hmx _ _ (hmx _ _ HM.out hS4) hS5) hS6)).mono ?_); rintro e w7 ⟨rfl, hD7, hM7, hF7⟩; have hq7 := hk2 _ _ hq6 hF7))
            have hF := (p2_stay (x := x) (y := y) hS4).trans ((p2_stay hS5).trans ((p2_stay hS6).trans (hF7.wide (fun g hg => p2_pg hg))))
            have HN := Lib.hid (tf_passed HG1.out.drew t3 ho hD7 hF (by rw [upd_ne (by decide)]; exact HA4.out) (by simp [upd, HA5.out]) (by omega))
            have ma := hq7.2.2.2.2.2.2.1.2.1
            have mb := hq7.2.2.2.2.2.2.1.2.2
            have fa := ma.frozen t
            have ca := hq7.2.2.2.2.1
            have cb := hq7.2.2.2.2.2.1
            have mb2 := mb.far (a := ⟨ga, t, none⟩) (by show gb ≠ ga; omega) (.pointer none)
            have cb2 : (w7.setCell ⟨ga, t, none⟩ (.pointer none)).cell? ⟨gb, t, none⟩ = some (.pointer (some ⟨y, 0, none⟩)) := (bBox_at p' mb2 t3).trans (by rw [ho]; rfl)
            have fb2 := mb2.frozen t
            clear hpa hpb hpc hkeep hmx hk2 hsy2 hq4 hq5 hq6 hq7 hD4 hS4 hD5 hS5 hD6 hS6 hD7 hM7 hF7 hF ma mb mb2 HM HA4 HA5 HG1 y0 y1 g0 g1 ha0 hb0 hok
            go_wp2_with fail
            go_roundw
            case rel => exact ⟨i + 1, T, k + 1, _, by go_num, HN.out, by omega, by omega⟩
            case measure => simp [intOf]; omega
          · have hdv : ((st : Int) == 2) = false := by simp; omega
            have hdq : (st == 2) = false := by simpa using h2
            have hdn := t_done x _ _ wc.drew (HM.out.drewN 1)
            have htn := t_ticket x _ _ wc.drew (HM.out.drewN 1)
            rw [hdv] at hdn
            have hsy : SY b rb gp ga gb t x y p' st false k wc.drew := sy_of HG'.out.drew.hx (HM2.out.drewN 1) t3 ho hdq
            go_upto_region 16 with fail
            go_region_held3 (SY b rb gp ga gb t x y p' st false k) (first | exact hsy | assumption) (first
              | (go_at_call 54; (with_reducible refine hdn.mono ?_); rintro e w12 ⟨rfl, rfl⟩)
              | (go_at_call 55; (with_reducible refine htn.mono ?_); rintro e w13 ⟨rfl, rfl⟩))
            have HG1 := Lib.hid HG'.out.drew
            obtain ⟨W1, hW1⟩ : ∃ W1, wc.drew = W1 := ⟨_, rfl⟩
            rw [hW1] at HG1 hsy ⊢
            clear hdn htn hdv HM HM2 hW1 ha0 HG'
            obtain ⟨M, M2, _⟩ := HG1.out.drew.en t t3 x y st k ho
            have HM := Lib.hid M
            have HM2 := Lib.hid M2
            clear M M2
            obtain ⟨y0, y1, g0, g1, ha0, hb0, _, _⟩ := hsy
            obtain ⟨A, A', k1, k2, k3, k4, k5, d, st', k', T', hDA, hpa, hpb, hA4, hA5, hT1, hT2, hok'⟩ := tf_plan HG1.out.drew t3 ho (by omega)
            have hpa := hpa _ hDA HM.out
            have hsx : SX b rb gp ga gb t x y p' W1.drew := sx_of HG1.out.drew.hx t3 ho
            have hkx : ∀ W W', SX b rb gp ga gb t x y p' W → Fr (PG lo hi x) W W' → SX b rb gp ga gb t x y p' W' := fun W W' h s => sx_of (h.2.2.2.2.fr s (by unfold PG; omega) (by unfold PG; omega) (by unfold PG; omega)) t3 ho
            have hky : ∀ W W', SX b rb gp ga gb t x y p' W → Fr (PG lo hi y) W W' → SX b rb gp ga gb t x y p' W' := fun W W' h s => sx_of (h.2.2.2.2.fr s (by unfold PG; omega) (by unfold PG; omega) (by unfold PG; omega)) t3 ho
            have hks : ∀ W W', SX b rb gp ga gb t x y p' W → Stay lo hi W W' → SX b rb gp ga gb t x y p' W' := fun W W' h s => sx_of (h.2.2.2.2.fr (Fr.of_stay (P := PI lo hi) s (fun x a c => ⟨a, c⟩)) (by unfold PI; omega) (by unfold PI; omega) (by unfold PI; omega)) t3 ho
            have hmy : ∀ W, Fr (PG lo hi x) W1.drew W → Mem W y TQ (qBox st k) := fun W s => mem_fr HM2.out s (by unfold PG; omega)
            clear hDA
            go_upto_region 22 with fail
            go_region_held3 (SX b rb gp ga gb t x y p') (first | exact hsx | assumption) (first
              | (go_at_call 58; (with_reducible refine hpa.mono ?_); rintro e w4 ⟨rfl, hD4, hM4, hF4⟩; have hq4 := hkx _ _ hsx hF4)
              | (go_at_call 59; (with_reducible refine (hpb _ hD4 (hmy _ hF4)).mono ?_); rintro e w5 ⟨rfl, hD5, hM5, hF5⟩; have hq5 := hky _ _ hq4 hF5)
              | (go_at_call 37; (with_reducible refine (p_same hD5).mono ?_); rintro e w6 ⟨rfl, hD6, hS6⟩; have hq6 := hks _ _ hq5 hS6))
            have hF := (hF4.wide (fun g hg => p2_pg (y := y) hg)).trans ((hF5.wide (fun g hg => p2_pgy (x := x) hg)).trans (p2_stay hS6))
            have hMx := Mem.of_eq (mem_fr hM4 hF5 (by unfold PG; omega)) (hS6.block x (mem_fr hM4 hF5 (by unfold PG; omega)).lt (.inr (by omega)))
            have hMy := Mem.of_eq hM5 (hS6.block y hM5.lt (.inr (by omega)))
            have HN := Lib.hid (tf_stepped HG1.out.drew t3 ho hD6 hMx hMy hF hA4 hA5 hT1 hT2 (by omega) hok')
            clear hpa hpb hsx hkx hky hks hmy hq4 hq5 hq6 hD4 hM4 hF4 hD5 hM5 hF5 hD6 hS6 hF hMx hMy hA4 hA5 hok' HM HM2 HG1 y0 y1 g0 g1 ha0 hb0 hok
            go_wp2_with fail
            go_roundw
            case rel => exact ⟨i + 1, T', S, _, by go_num, HN.out, by omega, by omega⟩
            case measure => simp [intOf]; omega
      · obtain rfl : i = n3 := by omega
        go_wp2_with fail
        refine (TurL.l_awake _).mono ?_
        rintro e w6 ⟨rfl, hb6⟩
        have HB6 := Lib.hid (below_trans2 HB0.out (below_trans2 HG.out.old hb6))
        clear hb6
        go_wp2
        go_ret
        exact ⟨rfl, .of_below HB6.out⟩

/-! The row's step. -/
set_option maxRecDepth 100000 in
theorem lifted (os : Os) (started : os.Started) (H : Type) (enc : TypeId × Value → H) :
    ReturnsInHanded {} Try.checked os 11 .any (Rows.turnFollowsSpec.pre6 enc Try.prog Try.f11 Rows.turnFollowsRow.domain false) (Rows.turnFollowsSpec.post enc Try.prog Try.f11 false true false false) := by
  refine returnsInHanded_of_change (C := Try.checked) own started (by kernel_rfl) Try.func11
    (ChangeSpec.witness6 (enc := enc) (C := Try.checked) false ⟨#[], #[.agg #[.int .i64 0, .int .i64 0, .int .i64 0, .int .i64 0, .int .i64 0], .int .u64 0, .int .u64 0, .slice none 0 0], []⟩ 8 (by kernel_rfl) (by kernel_rfl) (by kernel_rfl) (by kernel_rfl)) ?_
  intro W base args ds gs before hval0 hW hcnd _
  have hval : ∀ (j : Nat) t v, Try.f11.params[j]? = some t → args[j]? = some v → Value.okWide Try.prog W .any base t v := hval0
  have hW' := hW
  obtain ⟨p, q, hA0, hV, rfl, hfz, hnd⟩ := hW
  have hA : DataW.TrodAll enc Try.prog W 0 (fun _ => true) true Try.f11.params.toList args.toList ds p := hA0
  rw [Try.params11] at hA hval
  obtain ⟨v0, vs0, d0, ds0, p0, q0, hargs, rfl, rfl, h0, r0⟩ := trodAll_cons hA
  obtain ⟨v1, vs1, d1, ds1, p1, q1, rfl, rfl, rfl, h1, r1⟩ := trodAll_cons r0
  obtain ⟨v2, vs2, d2, ds2, p2, q2, rfl, rfl, rfl, h2, r2⟩ := trodAll_cons r1
  obtain ⟨v3, vs3, d3, ds3, p3, q3, rfl, rfl, rfl, h3, r3⟩ := trodAll_cons r2
  obtain ⟨rfl, rfl, rfl⟩ := trodAll_nil r3
  obtain rfl : args = #[v0, v1, v2, v3] := by cases args; simp_all
  obtain ⟨rfl, rfl⟩ := trodVars_none hV
  have hk : ∀ W', Kept W W' → Rows.turnFollowsSpec.post enc Try.prog Try.f11 false true false false W #[v0, v1, v2, v3] (.bool true) W' := fun W' hb =>
    post_law laidOut readable rfl Try.underlying4 rfl hW' rfl hb
  clear hA0 hval0 hA hW'
  obtain ⟨x0_0, x0_1, x0_2, x0_3, x0_4, rfl, wx0_0, wx0_1, wx0_2, wx0_3, wx0_4⟩ := LayO.open_arr5 (hval 0 22 v0 rfl rfl) h0
  obtain ⟨a1, rfl, rfl, rfl, w1⟩ := open_int Try.underlying29 (hval 1 29 v1 rfl rfl) h1
  obtain ⟨a2, rfl, rfl, rfl, w2⟩ := open_int Try.underlying29 (hval 2 29 v2 rfl rfl) h2
  obtain ⟨A3, n3, c3, z3, rfl, l3, m3, s3⟩ := open_slice Try.underlying74 Try.underlying3 cells3 (hval 3 74 v3 rfl rfl) h3
  refine (walk W x0_0 x0_1 x0_2 x0_3 x0_4 wx0_0 wx0_1 wx0_2 wx0_3 wx0_4 a1 w1 a2 w2 A3 n3 c3 z3 l3 m3 s3).mono fun e W' ⟨he, hg⟩ => ?_
  subst he
  exact ⟨_, rfl, hk W' hg⟩

theorem over : Rows.turnFollowsRow.holds Try.pinned (OpenSpec.ofChange Rows.turnFollowsSpec) :=
  OpenClaim.holds_of_wide 11 Try.f11 rfl rfl rfl rfl rfl rfl rfl ⟨rfl, rfl, rfl, rfl, rfl⟩ rfl rfl rfl rfl rfl (by kernel_rfl) Try.func11 (by kernel_rfl)
    (of_decide_eq_true (by kernel_rfl)) (by unfold Func.isWrapper; first | (rw [if_pos (by decide +kernel)]; kernel_rfl) | (rw [if_neg (by decide +kernel)]; exact ⟨rfl, rfl⟩))
    (fun os started H enc _ => lifted os started H enc)

/-- The statement. -/
theorem proved : Rows.TurnFollowsSaid :=
  over
#print axioms proved
end Go.Proofs.Ytpdmmblcjidekaa.turnFollows
