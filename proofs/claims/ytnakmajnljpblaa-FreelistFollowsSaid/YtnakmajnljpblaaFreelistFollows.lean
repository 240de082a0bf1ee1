/-
  Proved: pops and pushes of four threads make the operations of the document, step by step, under every schedule; popped blocks are pushed later, some at once. No condition.
-/
import Derived.Test.YtnakmajnljpblaaRows
import Derived.WalkKit
import Derived.ProofKit
import Derived.OpenShut
import Derived.Test.YtnakmajnljpblaaFrame
import Derived.Test.YtnakmajnljpblaaFreF
import Derived.Deep.RegionHeld3
import Derived.Deep.RegionLaw
import Derived.Deep.Cut
import Derived.Deep.DeepCutAuto
import Derived.Deep.CutBlock
namespace Go.Proofs.Ytnakmajnljpblaa.freelistFollows
open Go.ChangeShapes Go.WideShapes Go.ChangeAt Go.RowKit
open LawFrame
open Go.ChangeMaps (open_string)
set_option linter.unusedVariables false

theorem own : ownKnob Try.prog.godebug = none := by kernel_rfl
theorem laidOut : laidOutB Try.prog = true := by kernel_rfl
theorem cells3 : Try.prog.cellsOf 3 = 1 := by kernel_rfl

open PlainT BlkW LayS LayA LayH LayK LayP CelS CelM CelP CelV CelN CelO CelI CelY CelQ LabD LabR LabP LabS LabT FreP FreQ FreV FreC FreI FreA FreB FreS FreW FreL FreT FreF
set_option maxHeartbeats 20000000
set_option maxRecDepth 100000
theorem cl_of {b : Nat} (h : b < 6) : clsV hq b = (cl b : Int) := by
  have : b = 0 ∨ b = 1 ∨ b = 2 ∨ b = 3 ∨ b = 4 ∨ b = 5 := by omega
  rcases this with rfl | rfl | rfl | rfl | rfl | rfl <;> decide
def isIdle : Th → Bool
  | .idle => true
  | _ => false
/-- Where the world is while two boxes are made and put in their places. -/
def st5 (c1 c2 c3 c4 : Bool) (W0 W1 W2 W3 W4 : World) : World := match c1, c2, c3, c4 with
  | false, _, _, _ => W0
  | true, false, _, _ => W1
  | true, true, false, _ => W2
  | true, true, true, false => W3
  | true, true, true, true => W4
/-- What holds before, between and behind the steps of both machines. -/
def tri (c1 c2 : Bool) (W0 : World) (S1 S2 : World → Prop) (w : World) : Prop := match c1, c2 with
  | false, _ => w = W0
  | true, false => S1 w
  | true, true => S2 w
theorem tri_fr {c1 c2 : Bool} {W0 w : World} {S1 S2 : World → Prop} {P : Nat → Prop} (h : tri c1 c2 W0 S1 S2 w) (h1 : ∀ w, S1 w → Fr P W0 w) (h2 : ∀ w, S2 w → Fr P W0 w) : Fr P W0 w := by
  cases c1
  · have h : w = W0 := h
    rw [h]
    exact Fr.refl _ _
  · cases c2
    · exact h1 w h
    · exact h2 w h

theorem readable : ∀ t ∈ Try.f3.params.toList, Try.prog.readableRec t = true ∧ t < Try.prog.types.size := by
  have h : (Try.f3.params.toList.all fun t => Try.prog.readableRec t && decide (t < Try.prog.types.size)) = true := by kernel_rfl
  intro t ht
  have := List.all_eq_true.1 h t ht
  simpa using this

/-! The walk. -/
/-- What is left of the walk in 4 places, and that the contract rests on it. -/
noncomputable def Pc :
    { P : Prop × Prop × Prop × Prop // PLift P.1 → PLift P.2.1 → PLift P.2.2.1 → PLift P.2.2.2 → ∀ (w : World) (A0 : Option Addr) (n0 c0 : Nat) (z0 : List Int) (l0 : n0 ≤ c0) (m0 : c0 ≤ maxLen) (s0 : Ints .i64 w A0 n0 z0) (A1 : Option Addr) (n1 c1 : Nat) (z1 : List Int) (l1 : n1 ≤ c1) (m1 : c1 ≤ maxLen) (s1 : Ints .i64 w A1 n1 z1), Calls Try.prog 3 #[.slice A0 n0 c0, .slice A1 n1 c1] w fun e w' => e = .returned (.bool true) ∧ Kept w w' } := ⟨(_, _, _, _), fun h1p h2p h3p h4p => by
  intro w A0 n0 c0 z0 l0 m0 s0 A1 n1 c1 z1 l1 m1 s1
  have HZ0 := Lib.hid s0
  have HZ1 := Lib.hid s1
  clear s0 s1
  go_enter Try.func3, Try.ntmps3
  by_cases hbig : (90 : Int) < n1
  · go_wp2_with fail
    refine (FreL.l_awake _).mono ?_
    rintro e w3 ⟨rfl, hb1⟩
    have HB1 := Lib.hid hb1
    clear hb1
    go_wp2
    go_ret
    exact ⟨rfl, .of_below HB1.out⟩
  · have hn80 : (n1 : Int) ≤ 90 := by omega
    clear hbig
    go_upto_region 6 with (first | (go_at_call 12; refine (l_heap _).mono ?_; rintro e w0 ⟨rfl, hb0⟩; have HB0 := Lib.hid hb0) | (go_at_call 11; refine (l_startn hq (Lib.hid hq_valid) 4 (by decide) (by decide) _).mono ?_; rintro e w1 ⟨A, lo, hi, b, rb, rfl, hst⟩))
    have S0 := Lib.hid (fl_begun hst)
    have hlo := S0.out.lo
    have hle := S0.out.le
    have htop := S0.out.top
    clear hst hb0
    go_upto_region 7 with (fail)
    have HG : Hid (KB w0 lo hi b rb w1.heap.size (w1.heap.size + 1) 0 T0 L0 N0 [] (fun _ => .idle) (fun _ => 0) ((w1.alloc (.cells #[.pointer (some ⟨b, 0, none⟩), .pointer (some ⟨rb, 0, none⟩)] TP)).alloc (.cells (A16 (tb (fun _ => .idle) (fun _ => 0))) TM))) := Lib.hid ⟨⟨(S0.out.alloc _).alloc _, inv0, by omega, fun _ _ => trivial, fun t g _ h => (by cases h), fun t u g _ _ _ h => (by cases h)⟩, (Mem.new w1 TP #[.pointer (some ⟨b, 0, none⟩), .pointer (some ⟨rb, 0, none⟩)]).alloc _, fun _ _ => trivial, fun _ _ h => absurd rfl h, fun _ _ _ _ _ h => absurd rfl h, fun _ _ _ _ _ _ _ h => (by cases h), ⟨hlo, hle, htop, by omega, by rw [size_new, size_new]; omega⟩, by simp⟩
    have HT : Hid (Mem ((w1.alloc (.cells #[.pointer (some ⟨b, 0, none⟩), .pointer (some ⟨rb, 0, none⟩)] TP)).alloc (.cells (A16 (tb (fun _ => .idle) (fun _ => 0))) TM)) (w1.heap.size + 1) TM (A16 (tb (fun _ => .idle) (fun _ => 0)))) := Lib.hid (mem_new1 w1 _ TM _)
    obtain ⟨gp, hgp⟩ : ∃ gp, w1.heap.size = gp := ⟨_, rfl⟩
    obtain ⟨gm, hgm⟩ : ∃ gm, gp + 1 = gm := ⟨_, rfl⟩
    rw [hgp, hgm] at HG HT
    first | rw [hgp] | skip
    first | rw [hgm] | skip
    obtain ⟨W1, hW⟩ : ∃ W', (w1.alloc (.cells #[.pointer (some ⟨b, 0, none⟩), .pointer (some ⟨rb, 0, none⟩)] TP)).alloc (.cells #[.pointer none, .pointer none, .pointer none, .pointer none, .pointer none, .pointer none, .pointer none, .pointer none, .pointer none, .pointer none, .pointer none, .pointer none, .pointer none, .pointer none, .pointer none, .pointer none] TM) = W' := ⟨_, rfl⟩
    replace HG : Hid (KB w0 lo hi b rb gp gm 0 T0 L0 N0 [] (fun _ => .idle) (fun _ => 0) W1) := by rw [← hW]; exact HG
    replace HT : Hid (Mem W1 gm TM (A16 (tb (fun _ => .idle) (fun _ => 0)))) := by rw [← hW]; exact HT
    first | rw [hW] | skip
    clear hW hgp hgm S0 htop
    go_wp2_with fail
    go_loopw [8, 9, 10] (fun hv nv iv wr => ∃ (i nn : Nat) (T : Nat → Int) (L : Nat → List Nat) (N : List Int) (held : List Nat) (p : Nat → Th) (rg : Nat → Nat), iv = .int .i64 i ∧ nv = .int .i64 nn ∧ nn ≤ i ∧ i ≤ n1 ∧ (∃ Ah ch, hv = .slice Ah held.length ch) ∧ KB w0 lo hi b rb gp gm i T L N held p rg wr ∧ Mem wr gm TM (A16 (tb p rg)) ∧ OwnQ wr (gm + 1) hv (held.map fun b : Nat => (b : Int))) (fun _ _ iv _ => n1 - (intOf iv).toNat)
    case atStart => exact ⟨0, 0, T0, L0, N0, [], _, _, rfl, rfl, by omega, by omega, ⟨_, _, rfl⟩, HG.out, HT.out, ownq_nil _ _⟩
    case round =>
      clear HG HT
      obtain ⟨i, nn, T, L, N, held, p, rg, rfl, rfl, hni, hi1, ⟨Ah, ch, rfl⟩, hkb, hkt, hko⟩ := hrel
      have HG := Lib.hid hkb
      have HT := Lib.hid hkt
      have HO := Lib.hid hko
      clear hkb hkt hko
      by_cases hlt : i < n1
      · have hltI : (i : Int) < n1 := by omega
        obtain ⟨tb1, toff, tx, rfl, htb, htc⟩ := iat HZ1.out (below_trans2 HB0.out HG.out.core.fl.old) hlt
        obtain ⟨t, ht⟩ : ∃ t : Nat, pl tx 4 = t := ⟨(pl tx 4).toNat, by have := pl_in tx 4 (by decide) (by decide); omega⟩
        have ht4 : (t : Int) < 4 := by have := pl_in tx 4 (by decide) (by decide); omega
        have t3 : t ≤ 3 := by omega
        have hpl := k_place tx 4 t (by decide) (by decide) ht
        go_upto_region 13 with (go_at_call 13; (with_reducible refine (hpl _).mono ?_); rintro e w9 ⟨rfl, rfl⟩)
        clear hpl ht
        go_cut [48] (fun zv wc => zv = .bool (isIdle (p t)) ∧ wc = wr)
        case first =>
          rcases ho : p t with _ | ⟨g, st, c, x, n⟩ | ⟨g, st, c, bk, x⟩
          · have hm0 : wr.cell? ⟨gm, t * 4, none⟩ = some (.pointer none) := (A16_at HT.out (by omega)).trans (by rw [tb_at0, ho]; rfl)
            have hm1 : wr.cell? ⟨gm, t * 4 + 1, none⟩ = some (.pointer none) := (A16_at HT.out (by omega)).trans (by rw [tb_at (by decide), ho]; rfl)
            go_wp2_with fail
            all_goals go_meet
            all_goals exact ⟨by rw [ho]; rfl, rfl⟩
          · have hm0 : wr.cell? ⟨gm, t * 4, none⟩ = some (.pointer (some ⟨g, 0, none⟩)) := (A16_at HT.out (by omega)).trans (by rw [tb_at0, ho]; rfl)
            go_wp2_with fail
            all_goals go_meet
            all_goals exact ⟨by rw [ho]; rfl, rfl⟩
          · have hm0 : wr.cell? ⟨gm, t * 4, none⟩ = some (.pointer none) := (A16_at HT.out (by omega)).trans (by rw [tb_at0, ho]; rfl)
            have hm1 : wr.cell? ⟨gm, t * 4 + 1, none⟩ = some (.pointer (some ⟨g, 0, none⟩)) := (A16_at HT.out (by omega)).trans (by rw [tb_at (by decide), ho]; rfl)
            go_wp2_with fail
            all_goals go_meet
            all_goals exact ⟨by rw [ho]; rfl, rfl⟩
        case rest =>
          obtain ⟨rfl, rfl⟩ := hcut
          go_upto_if 48 with fail
          go_cut [8, 9] (fun hv nv wc => ∃ (nn' : Nat) (held' : List Nat) (p' : Nat → Th) (rg' : Nat → Nat), nv = .int .i64 nn' ∧ nn' ≤ i + 1 ∧ (∃ Ah ch, hv = .slice Ah held'.length ch) ∧ Hid (KB w0 lo hi b rb gp gm i T L N held' p' rg' wc) ∧ Hid (Mem wc gm TM (A16 (tb p' rg'))) ∧ Hid (OwnQ wc (gm + 1) hv (held'.map fun b : Nat => (b : Int))) ∧ gOf (p' t) ≠ none)
          case first =>
            rcases ho : p t with _ | ⟨g, st, c, x, n⟩ | ⟨g, st, c, bk, x⟩
            · skip
              have hB0 := below_trans2 HB0.out HG.out.core.fl.old
              simp only [ho, isIdle]
              obtain ⟨q4, hq4⟩ : ∃ q4, IntKind.i64.wrap (tx.tdiv 4) = q4 := ⟨_, rfl⟩
              obtain ⟨m2, hm2⟩ : ∃ m2, pl q4 2 = m2 := ⟨_, rfl⟩
              have hpl2 := k_place q4 2 m2 (by decide) (by decide) hm2
              clear hm2
              by_cases hC1 : held ≠ [] ∧ m2 = 0
              · skip
                rename_i Q'z1 hz1 Kz1 az1 u26z1 u27z1 u28z1 u29z1 u30z1 u31z1 u32z1 u33z1 u34z1 u35z1 u36z1 u37z1 u38z1 u39z1 u40z1 u41z1 u42z1 u43z1 u44z1 u45z1 u46z1 u47z1 u49z1 u50z1 u51z1 u52z1 u53z1 u54z1 u55z1 u56z1 u57z1 u58z1 u59z1 u60z1 u61z1 u62z1 u63z1 u64z1 u65z1 u66z1 u67z1 u68z1 u69z1 u70z1 u71z1 u72z1 u73z1 u74z1 u75z1 u76z1 u77z1 u78z1 u79z1 u80z1 u81z1 u82z1 u83z1 u84z1 u85z1 u86z1 u87z1 u88z1 u89z1 u90z1 u91z1 u92z1 u93z1 u94z1 u95z1 u96z1 u97z1 u98z1 u99z1 u100z1 u101z1 u102z1 u103z1 u104z1 u105z1 u106z1 u107z1 u108z1 u109z1 u110z1 u111z1 u112z1 u113z1 u114z1 u115z1 u116z1 u117z1 u118z1 u119z1 u120z1 u121z1 u122z1 u123z1 u124z1 u125z1 u126z1 u127z1 u128z1 u129z1 u130z1 u131z1 u132z1 u133z1 u134z1 u135z1 u136z1 u137z1 u138z1 u139z1 u140z1 u141z1 u142z1 u143z1 u144z1 u145z1 u146z1 u147z1 u148z1 u149z1 u150z1 u151z1 u152z1 u153z1 u154z1 u155z1 u156z1 u157z1 u158z1 u159z1 u160z1 u161z1 u162z1 u163z1 u164z1 u165z1 u166z1 u167z1 u168z1 u169z1 u170z1 u171z1 u172z1 u173z1 u174z1 u175z1 u176z1 u177z1 u178z1 u179z1 u180z1 u181z1 u182z1 u183z1 u184z1 u185z1 u186z1 u187z1 u188z1 u189z1 u190z1 u191z1 u192z1 u193z1 u194z1 u195z1 u196z1 u197z1 u198z1 u199z1 u200z1 u201z1 u202z1 u203z1 u204z1 u205z1 u206z1 u207z1 u208z1 u209z1 u210z1 u211z1 u212z1 u213z1 u214z1 u215z1 u216z1 u217z1 u218z1 u219z1 u220z1 u221z1 u222z1 u223z1 u224z1 u225z1 u226z1 u227z1 u228z1 u229z1 u230z1 u231z1 u232z1 u233z1 Q'z2 Kz2 az2 Kz3 az3 Jz1 K'z1 az4 az5
                revert w A0 n0 c0 z0 l0 m0 n1 c1 z1 l1 m1 HZ0 hn80 Q'z1 hz1 w0 HB0 w1 A lo hi b rb hlo hle gp gm W1 Kz1 az1 u4 u11 u12 u13 u14 u26z1 u27z1 u28z1 u29z1 u30z1 u31z1 u32z1 u33z1 u34z1 u35z1 u36z1 u37z1 u38z1 u39z1 u40z1 u41z1 u42z1 u43z1 u44z1 u45z1 u46z1 u47z1 u48 u49z1 u50z1 u51z1 u52z1 u53z1 u54z1 u55z1 u56z1 u57z1 u58z1 u59z1 u60z1 u61z1 u62z1 u63z1 u64z1 u65z1 u66z1 u67z1 u68z1 u69z1 u70z1 u71z1 u72z1 u73z1 u74z1 u75z1 u76z1 u77z1 u78z1 u79z1 u80z1 u81z1 u82z1 u83z1 u84z1 u85z1 u86z1 u87z1 u88z1 u89z1 u90z1 u91z1 u92z1 u93z1 u94z1 u95z1 u96z1 u97z1 u98z1 u99z1 u100z1 u101z1 u102z1 u103z1 u104z1 u105z1 u106z1 u107z1 u108z1 u109z1 u110z1 u111z1 u112z1 u113z1 u114z1 u115z1 u116z1 u117z1 u118z1 u119z1 u120z1 u121z1 u122z1 u123z1 u124z1 u125z1 u126z1 u127z1 u128z1 u129z1 u130z1 u131z1 u132z1 u133z1 u134z1 u135z1 u136z1 u137z1 u138z1 u139z1 u140z1 u141z1 u142z1 u143z1 u144z1 u145z1 u146z1 u147z1 u148z1 u149z1 u150z1 u151z1 u152z1 u153z1 u154z1 u155z1 u156z1 u157z1 u158z1 u159z1 u160z1 u161z1 u162z1 u163z1 u164z1 u165z1 u166z1 u167z1 u168z1 u169z1 u170z1 u171z1 u172z1 u173z1 u174z1 u175z1 u176z1 u177z1 u178z1 u179z1 u180z1 u181z1 u182z1 u183z1 u184z1 u185z1 u186z1 u187z1 u188z1 u189z1 u190z1 u191z1 u192z1 u193z1 u194z1 u195z1 u196z1 u197z1 u198z1 u199z1 u200z1 u201z1 u202z1 u203z1 u204z1 u205z1 u206z1 u207z1 u208z1 u209z1 u210z1 u211z1 u212z1 u213z1 u214z1 u215z1 u216z1 u217z1 u218z1 u219z1 u220z1 u221z1 u222z1 u223z1 u224z1 u225z1 u226z1 u227z1 u228z1 u229z1 u230z1 u231z1 u232z1 u233z1 i nn T L N held p rg hni hi1 Ah ch hlt hltI tb1 toff tx HZ1 htb t ht4 t3 Q'z2 Kz2 az2 Kz3 az3 wc u26 u27 u28 u29 u30 u31 u32 u33 u34 u35 u36 u37 u38 u39 u40 u41 u42 u43 u44 u45 u46 u47 u49 u50 u51 u52 u53 u54 u55 u56 u57 u58 u59 u60 u61 u62 u63 u64 u65 u66 u67 u68 u69 u70 u71 u72 u73 u74 u75 u76 u77 u78 u79 u80 u81 u82 u83 u84 u85 u86 u87 u88 u89 u90 u91 u92 u93 u94 u95 u96 u97 u98 u99 u100 u101 u102 u103 u104 u105 u106 u107 u108 u109 u110 u111 u112 u113 u114 u115 u116 u117 u118 u119 u120 u121 u122 u123 u124 u125 u126 u127 u128 u129 u130 u131 u132 u133 u134 u135 u136 u137 u138 u139 u140 u141 u142 u143 u144 u145 u146 u147 u148 u149 u150 u151 u152 u153 u154 u155 u156 u157 u158 u159 u160 u161 u162 u163 u164 u165 u166 u167 u168 u169 u170 u171 u172 u173 u174 u175 u176 u177 u178 u179 u180 u181 u182 u183 u184 u185 u186 u187 u188 u189 u190 u191 u192 u193 u194 u195 u196 u197 u198 u199 u200 u201 u202 u203 u204 u205 u206 u207 u208 u209 u210 u211 u212 u213 u214 u215 u216 u217 u218 u219 u220 u221 u222 u223 u224 u225 u226 u227 u228 u229 u230 u231 u232 u233 HG HT HO htc Jz1 K'z1 az4 az5 ho hB0 q4 hq4 m2 hpl2 hC1
                exact h1p.down
              · skip
                rename_i Q'z1 hz1 Kz1 az1 u26z1 u27z1 u28z1 u29z1 u30z1 u31z1 u32z1 u33z1 u34z1 u35z1 u36z1 u37z1 u38z1 u39z1 u40z1 u41z1 u42z1 u43z1 u44z1 u45z1 u46z1 u47z1 u49z1 u50z1 u51z1 u52z1 u53z1 u54z1 u55z1 u56z1 u57z1 u58z1 u59z1 u60z1 u61z1 u62z1 u63z1 u64z1 u65z1 u66z1 u67z1 u68z1 u69z1 u70z1 u71z1 u72z1 u73z1 u74z1 u75z1 u76z1 u77z1 u78z1 u79z1 u80z1 u81z1 u82z1 u83z1 u84z1 u85z1 u86z1 u87z1 u88z1 u89z1 u90z1 u91z1 u92z1 u93z1 u94z1 u95z1 u96z1 u97z1 u98z1 u99z1 u100z1 u101z1 u102z1 u103z1 u104z1 u105z1 u106z1 u107z1 u108z1 u109z1 u110z1 u111z1 u112z1 u113z1 u114z1 u115z1 u116z1 u117z1 u118z1 u119z1 u120z1 u121z1 u122z1 u123z1 u124z1 u125z1 u126z1 u127z1 u128z1 u129z1 u130z1 u131z1 u132z1 u133z1 u134z1 u135z1 u136z1 u137z1 u138z1 u139z1 u140z1 u141z1 u142z1 u143z1 u144z1 u145z1 u146z1 u147z1 u148z1 u149z1 u150z1 u151z1 u152z1 u153z1 u154z1 u155z1 u156z1 u157z1 u158z1 u159z1 u160z1 u161z1 u162z1 u163z1 u164z1 u165z1 u166z1 u167z1 u168z1 u169z1 u170z1 u171z1 u172z1 u173z1 u174z1 u175z1 u176z1 u177z1 u178z1 u179z1 u180z1 u181z1 u182z1 u183z1 u184z1 u185z1 u186z1 u187z1 u188z1 u189z1 u190z1 u191z1 u192z1 u193z1 u194z1 u195z1 u196z1 u197z1 u198z1 u199z1 u200z1 u201z1 u202z1 u203z1 u204z1 u205z1 u206z1 u207z1 u208z1 u209z1 u210z1 u211z1 u212z1 u213z1 u214z1 u215z1 u216z1 u217z1 u218z1 u219z1 u220z1 u221z1 u222z1 u223z1 u224z1 u225z1 u226z1 u227z1 u228z1 u229z1 u230z1 u231z1 u232z1 u233z1 Q'z2 Kz2 az2 Kz3 az3 Jz1 K'z1 az4 az5
                revert w A0 n0 c0 z0 l0 m0 n1 c1 z1 l1 m1 HZ0 hn80 Q'z1 hz1 w0 HB0 w1 A lo hi b rb hlo hle gp gm W1 Kz1 az1 u4 u11 u12 u13 u14 u26z1 u27z1 u28z1 u29z1 u30z1 u31z1 u32z1 u33z1 u34z1 u35z1 u36z1 u37z1 u38z1 u39z1 u40z1 u41z1 u42z1 u43z1 u44z1 u45z1 u46z1 u47z1 u48 u49z1 u50z1 u51z1 u52z1 u53z1 u54z1 u55z1 u56z1 u57z1 u58z1 u59z1 u60z1 u61z1 u62z1 u63z1 u64z1 u65z1 u66z1 u67z1 u68z1 u69z1 u70z1 u71z1 u72z1 u73z1 u74z1 u75z1 u76z1 u77z1 u78z1 u79z1 u80z1 u81z1 u82z1 u83z1 u84z1 u85z1 u86z1 u87z1 u88z1 u89z1 u90z1 u91z1 u92z1 u93z1 u94z1 u95z1 u96z1 u97z1 u98z1 u99z1 u100z1 u101z1 u102z1 u103z1 u104z1 u105z1 u106z1 u107z1 u108z1 u109z1 u110z1 u111z1 u112z1 u113z1 u114z1 u115z1 u116z1 u117z1 u118z1 u119z1 u120z1 u121z1 u122z1 u123z1 u124z1 u125z1 u126z1 u127z1 u128z1 u129z1 u130z1 u131z1 u132z1 u133z1 u134z1 u135z1 u136z1 u137z1 u138z1 u139z1 u140z1 u141z1 u142z1 u143z1 u144z1 u145z1 u146z1 u147z1 u148z1 u149z1 u150z1 u151z1 u152z1 u153z1 u154z1 u155z1 u156z1 u157z1 u158z1 u159z1 u160z1 u161z1 u162z1 u163z1 u164z1 u165z1 u166z1 u167z1 u168z1 u169z1 u170z1 u171z1 u172z1 u173z1 u174z1 u175z1 u176z1 u177z1 u178z1 u179z1 u180z1 u181z1 u182z1 u183z1 u184z1 u185z1 u186z1 u187z1 u188z1 u189z1 u190z1 u191z1 u192z1 u193z1 u194z1 u195z1 u196z1 u197z1 u198z1 u199z1 u200z1 u201z1 u202z1 u203z1 u204z1 u205z1 u206z1 u207z1 u208z1 u209z1 u210z1 u211z1 u212z1 u213z1 u214z1 u215z1 u216z1 u217z1 u218z1 u219z1 u220z1 u221z1 u222z1 u223z1 u224z1 u225z1 u226z1 u227z1 u228z1 u229z1 u230z1 u231z1 u232z1 u233z1 i nn T L N held p rg hni hi1 Ah ch hlt hltI tb1 toff tx HZ1 htb t ht4 t3 Q'z2 Kz2 az2 Kz3 az3 wc u26 u27 u28 u29 u30 u31 u32 u33 u34 u35 u36 u37 u38 u39 u40 u41 u42 u43 u44 u45 u46 u47 u49 u50 u51 u52 u53 u54 u55 u56 u57 u58 u59 u60 u61 u62 u63 u64 u65 u66 u67 u68 u69 u70 u71 u72 u73 u74 u75 u76 u77 u78 u79 u80 u81 u82 u83 u84 u85 u86 u87 u88 u89 u90 u91 u92 u93 u94 u95 u96 u97 u98 u99 u100 u101 u102 u103 u104 u105 u106 u107 u108 u109 u110 u111 u112 u113 u114 u115 u116 u117 u118 u119 u120 u121 u122 u123 u124 u125 u126 u127 u128 u129 u130 u131 u132 u133 u134 u135 u136 u137 u138 u139 u140 u141 u142 u143 u144 u145 u146 u147 u148 u149 u150 u151 u152 u153 u154 u155 u156 u157 u158 u159 u160 u161 u162 u163 u164 u165 u166 u167 u168 u169 u170 u171 u172 u173 u174 u175 u176 u177 u178 u179 u180 u181 u182 u183 u184 u185 u186 u187 u188 u189 u190 u191 u192 u193 u194 u195 u196 u197 u198 u199 u200 u201 u202 u203 u204 u205 u206 u207 u208 u209 u210 u211 u212 u213 u214 u215 u216 u217 u218 u219 u220 u221 u222 u223 u224 u225 u226 u227 u228 u229 u230 u231 u232 u233 HG HT HO htc Jz1 K'z1 az4 az5 ho hB0 q4 hq4 m2 hpl2 hC1
                exact h2p.down
            · simp only [ho, isIdle]
              go_wp2_with fail
              all_goals go_meet
              all_goals exact ⟨nn, held, p, rg, rfl, by omega, ⟨_, _, rfl⟩, HG, HT, HO, by rw [ho]; simp [gOf]⟩
            · simp only [ho, isIdle]
              go_wp2_with fail
              all_goals go_meet
              all_goals exact ⟨nn, held, p, rg, rfl, by omega, ⟨_, _, rfl⟩, HG, HT, HO, by rw [ho]; simp [gOf]⟩
          case rest =>
            obtain ⟨nn', held', p', rg', rfl, hnn, ⟨Ah', ch', rfl⟩, hst⟩ := hcut
            clear HG HT HO htc
            obtain ⟨HK4, HT4, HO4, hg4⟩ := hst
            have hod := HK4.out.od
            have HKL := HK4.out.ln
            rcases ho : p' t with _ | ⟨g, st, c, x, n⟩ | ⟨g, st, c, bk, x⟩
            · rw [ho] at hg4
              exact absurd rfl hg4
            · skip
              rename_i Q'z1 hz1 Kz1 az1 u12z1 u13z1 u14z1 u26z1 u27z1 u28z1 u29z1 u30z1 u31z1 u32z1 u33z1 u34z1 u35z1 u36z1 u37z1 u38z1 u39z1 u40z1 u41z1 u42z1 u43z1 u44z1 u45z1 u46z1 u47z1 u48z1 u49z1 u50z1 u51z1 u52z1 u53z1 u54z1 u55z1 u56z1 u57z1 u58z1 u59z1 u60z1 u61z1 u62z1 u63z1 u64z1 u65z1 u66z1 u67z1 u68z1 u69z1 u70z1 u71z1 u72z1 u73z1 u74z1 u75z1 u76z1 u77z1 u78z1 u79z1 u80z1 u81z1 u82z1 u83z1 u84z1 u85z1 u86z1 u87z1 u88z1 u89z1 u90z1 u91z1 u92z1 u93z1 u94z1 u95z1 u96z1 u97z1 u98z1 u99z1 u100z1 u101z1 u102z1 u103z1 u104z1 u105z1 u106z1 u107z1 u108z1 u109z1 u110z1 u111z1 u112z1 u113z1 u114z1 u115z1 u116z1 u117z1 u118z1 u119z1 u120z1 u121z1 u122z1 u123z1 u124z1 u125z1 u126z1 u127z1 u128z1 u129z1 u130z1 u131z1 u132z1 u133z1 u134z1 u135z1 u136z1 u137z1 u138z1 u139z1 u140z1 u141z1 u142z1 u143z1 u144z1 u145z1 u146z1 u147z1 u148z1 u149z1 u150z1 u151z1 u152z1 u153z1 u154z1 u155z1 u156z1 u157z1 u158z1 u159z1 u160z1 u161z1 u162z1 u163z1 u164z1 u165z1 u166z1 u167z1 u168z1 u169z1 u170z1 u171z1 u172z1 u173z1 u174z1 u175z1 u176z1 u177z1 u178z1 u179z1 u180z1 u181z1 u182z1 u183z1 u184z1 u185z1 u186z1 u187z1 u188z1 u189z1 u190z1 u191z1 u192z1 u193z1 u194z1 u195z1 u196z1 u197z1 u198z1 u199z1 u200z1 u201z1 u202z1 u203z1 u204z1 u205z1 u206z1 u207z1 u208z1 u209z1 u210z1 u211z1 u212z1 u213z1 u214z1 u215z1 u216z1 u217z1 u218z1 u219z1 u220z1 u221z1 u222z1 u223z1 u224z1 u225z1 u226z1 u227z1 u228z1 u229z1 u230z1 u231z1 u232z1 u233z1 Q'z2 Kz2 az2 Kz3 az3 wcz1 u26z2 u27z2 u28z2 u29z2 u30z2 u31z2 u32z2 u33z2 u34z2 u35z2 u36z2 u37z2 u38z2 u39z2 u40z2 u41z2 u42z2 u43z2 u44z2 u45z2 u46z2 u47z2 u49z2 u50z2 u51z2 u52z2 u53z2 u54z2 u55z2 u56z2 u57z2 u58z2 u59z2 u60z2 u61z2 u62z2 u63z2 u64z2 u65z2 u66z2 u67z2 u68z2 u69z2 u70z2 u71z2 u72z2 u73z2 u74z2 u75z2 u76z2 u77z2 u78z2 u79z2 u80z2 u81z2 u82z2 u83z2 u84z2 u85z2 u86z2 u87z2 u88z2 u89z2 u90z2 u91z2 u92z2 u93z2 u94z2 u95z2 u96z2 u97z2 u98z2 u99z2 u100z2 u101z2 u102z2 u103z2 u104z2 u105z2 u106z2 u107z2 u108z2 u109z2 u110z2 u111z2 u112z2 u113z2 u114z2 u115z2 u116z2 u117z2 u118z2 u119z2 u120z2 u121z2 u122z2 u123z2 u124z2 u125z2 u126z2 u127z2 u128z2 u129z2 u130z2 u131z2 u132z2 u133z2 u134z2 u135z2 u136z2 u137z2 u138z2 u139z2 u140z2 u141z2 u142z2 u143z2 u144z2 u145z2 u146z2 u147z2 u148z2 u149z2 u150z2 u151z2 u152z2 u153z2 u154z2 u155z2 u156z2 u157z2 u158z2 u159z2 u160z2 u161z2 u162z2 u163z2 u164z2 u165z2 u166z2 u167z2 u168z2 u169z2 u170z2 u171z2 u172z2 u173z2 u174z2 u175z2 u176z2 u177z2 u178z2 u179z2 u180z2 u181z2 u182z2 u183z2 u184z2 u185z2 u186z2 u187z2 u188z2 u189z2 u190z2 u191z2 u192z2 u193z2 u194z2 u195z2 u196z2 u197z2 u198z2 u199z2 u200z2 u201z2 u202z2 u203z2 u204z2 u205z2 u206z2 u207z2 u208z2 u209z2 u210z2 u211z2 u212z2 u213z2 u214z2 u215z2 u216z2 u217z2 u218z2 u219z2 u220z2 u221z2 u222z2 u223z2 u224z2 u225z2 u226z2 u227z2 u228z2 u229z2 u230z2 u231z2 u232z2 u233z2
              revert w A0 n0 c0 z0 l0 m0 n1 c1 z1 l1 m1 HZ0 hn80 Q'z1 hz1 w0 HB0 w1 A lo hi b rb hlo hle gp gm W1 Kz1 az1 u4 u11 u12z1 u13z1 u14z1 u26z1 u27z1 u28z1 u29z1 u30z1 u31z1 u32z1 u33z1 u34z1 u35z1 u36z1 u37z1 u38z1 u39z1 u40z1 u41z1 u42z1 u43z1 u44z1 u45z1 u46z1 u47z1 u48z1 u49z1 u50z1 u51z1 u52z1 u53z1 u54z1 u55z1 u56z1 u57z1 u58z1 u59z1 u60z1 u61z1 u62z1 u63z1 u64z1 u65z1 u66z1 u67z1 u68z1 u69z1 u70z1 u71z1 u72z1 u73z1 u74z1 u75z1 u76z1 u77z1 u78z1 u79z1 u80z1 u81z1 u82z1 u83z1 u84z1 u85z1 u86z1 u87z1 u88z1 u89z1 u90z1 u91z1 u92z1 u93z1 u94z1 u95z1 u96z1 u97z1 u98z1 u99z1 u100z1 u101z1 u102z1 u103z1 u104z1 u105z1 u106z1 u107z1 u108z1 u109z1 u110z1 u111z1 u112z1 u113z1 u114z1 u115z1 u116z1 u117z1 u118z1 u119z1 u120z1 u121z1 u122z1 u123z1 u124z1 u125z1 u126z1 u127z1 u128z1 u129z1 u130z1 u131z1 u132z1 u133z1 u134z1 u135z1 u136z1 u137z1 u138z1 u139z1 u140z1 u141z1 u142z1 u143z1 u144z1 u145z1 u146z1 u147z1 u148z1 u149z1 u150z1 u151z1 u152z1 u153z1 u154z1 u155z1 u156z1 u157z1 u158z1 u159z1 u160z1 u161z1 u162z1 u163z1 u164z1 u165z1 u166z1 u167z1 u168z1 u169z1 u170z1 u171z1 u172z1 u173z1 u174z1 u175z1 u176z1 u177z1 u178z1 u179z1 u180z1 u181z1 u182z1 u183z1 u184z1 u185z1 u186z1 u187z1 u188z1 u189z1 u190z1 u191z1 u192z1 u193z1 u194z1 u195z1 u196z1 u197z1 u198z1 u199z1 u200z1 u201z1 u202z1 u203z1 u204z1 u205z1 u206z1 u207z1 u208z1 u209z1 u210z1 u211z1 u212z1 u213z1 u214z1 u215z1 u216z1 u217z1 u218z1 u219z1 u220z1 u221z1 u222z1 u223z1 u224z1 u225z1 u226z1 u227z1 u228z1 u229z1 u230z1 u231z1 u232z1 u233z1 i nn T L N held p rg hni hi1 Ah ch hlt hltI tb1 toff tx HZ1 htb t ht4 t3 Q'z2 Kz2 az2 Kz3 az3 wcz1 u26z2 u27z2 u28z2 u29z2 u30z2 u31z2 u32z2 u33z2 u34z2 u35z2 u36z2 u37z2 u38z2 u39z2 u40z2 u41z2 u42z2 u43z2 u44z2 u45z2 u46z2 u47z2 u49z2 u50z2 u51z2 u52z2 u53z2 u54z2 u55z2 u56z2 u57z2 u58z2 u59z2 u60z2 u61z2 u62z2 u63z2 u64z2 u65z2 u66z2 u67z2 u68z2 u69z2 u70z2 u71z2 u72z2 u73z2 u74z2 u75z2 u76z2 u77z2 u78z2 u79z2 u80z2 u81z2 u82z2 u83z2 u84z2 u85z2 u86z2 u87z2 u88z2 u89z2 u90z2 u91z2 u92z2 u93z2 u94z2 u95z2 u96z2 u97z2 u98z2 u99z2 u100z2 u101z2 u102z2 u103z2 u104z2 u105z2 u106z2 u107z2 u108z2 u109z2 u110z2 u111z2 u112z2 u113z2 u114z2 u115z2 u116z2 u117z2 u118z2 u119z2 u120z2 u121z2 u122z2 u123z2 u124z2 u125z2 u126z2 u127z2 u128z2 u129z2 u130z2 u131z2 u132z2 u133z2 u134z2 u135z2 u136z2 u137z2 u138z2 u139z2 u140z2 u141z2 u142z2 u143z2 u144z2 u145z2 u146z2 u147z2 u148z2 u149z2 u150z2 u151z2 u152z2 u153z2 u154z2 u155z2 u156z2 u157z2 u158z2 u159z2 u160z2 u161z2 u162z2 u163z2 u164z2 u165z2 u166z2 u167z2 u168z2 u169z2 u170z2 u171z2 u172z2 u173z2 u174z2 u175z2 u176z2 u177z2 u178z2 u179z2 u180z2 u181z2 u182z2 u183z2 u184z2 u185z2 u186z2 u187z2 u188z2 u189z2 u190z2 u191z2 u192z2 u193z2 u194z2 u195z2 u196z2 u197z2 u198z2 u199z2 u200z2 u201z2 u202z2 u203z2 u204z2 u205z2 u206z2 u207z2 u208z2 u209z2 u210z2 u211z2 u212z2 u213z2 u214z2 u215z2 u216z2 u217z2 u218z2 u219z2 u220z2 u221z2 u222z2 u223z2 u224z2 u225z2 u226z2 u227z2 u228z2 u229z2 u230z2 u231z2 u232z2 u233z2 wc u12 u13 u14 u26 u27 u28 u29 u30 u31 u32 u33 u34 u35 u36 u37 u38 u39 u40 u41 u42 u43 u44 u45 u46 u47 u48 u49 u50 u51 u52 u53 u54 u55 u56 u57 u58 u59 u60 u61 u62 u63 u64 u65 u66 u67 u68 u69 u70 u71 u72 u73 u74 u75 u76 u77 u78 u79 u80 u81 u82 u83 u84 u85 u86 u87 u88 u89 u90 u91 u92 u93 u94 u95 u96 u97 u98 u99 u100 u101 u102 u103 u104 u105 u106 u107 u108 u109 u110 u111 u112 u113 u114 u115 u116 u117 u118 u119 u120 u121 u122 u123 u124 u125 u126 u127 u128 u129 u130 u131 u132 u133 u134 u135 u136 u137 u138 u139 u140 u141 u142 u143 u144 u145 u146 u147 u148 u149 u150 u151 u152 u153 u154 u155 u156 u157 u158 u159 u160 u161 u162 u163 u164 u165 u166 u167 u168 u169 u170 u171 u172 u173 u174 u175 u176 u177 u178 u179 u180 u181 u182 u183 u184 u185 u186 u187 u188 u189 u190 u191 u192 u193 u194 u195 u196 u197 u198 u199 u200 u201 u202 u203 u204 u205 u206 u207 u208 u209 u210 u211 u212 u213 u214 u215 u216 u217 u218 u219 u220 u221 u222 u223 u224 u225 u226 u227 u228 u229 u230 u231 u232 u233 nn' held' p' rg' hnn Ah' ch' HK4 HT4 HO4 hg4 hod HKL g st c x n ho
              exact h3p.down
            · skip
              rename_i Q'z1 hz1 Kz1 az1 u12z1 u13z1 u14z1 u26z1 u27z1 u28z1 u29z1 u30z1 u31z1 u32z1 u33z1 u34z1 u35z1 u36z1 u37z1 u38z1 u39z1 u40z1 u41z1 u42z1 u43z1 u44z1 u45z1 u46z1 u47z1 u48z1 u49z1 u50z1 u51z1 u52z1 u53z1 u54z1 u55z1 u56z1 u57z1 u58z1 u59z1 u60z1 u61z1 u62z1 u63z1 u64z1 u65z1 u66z1 u67z1 u68z1 u69z1 u70z1 u71z1 u72z1 u73z1 u74z1 u75z1 u76z1 u77z1 u78z1 u79z1 u80z1 u81z1 u82z1 u83z1 u84z1 u85z1 u86z1 u87z1 u88z1 u89z1 u90z1 u91z1 u92z1 u93z1 u94z1 u95z1 u96z1 u97z1 u98z1 u99z1 u100z1 u101z1 u102z1 u103z1 u104z1 u105z1 u106z1 u107z1 u108z1 u109z1 u110z1 u111z1 u112z1 u113z1 u114z1 u115z1 u116z1 u117z1 u118z1 u119z1 u120z1 u121z1 u122z1 u123z1 u124z1 u125z1 u126z1 u127z1 u128z1 u129z1 u130z1 u131z1 u132z1 u133z1 u134z1 u135z1 u136z1 u137z1 u138z1 u139z1 u140z1 u141z1 u142z1 u143z1 u144z1 u145z1 u146z1 u147z1 u148z1 u149z1 u150z1 u151z1 u152z1 u153z1 u154z1 u155z1 u156z1 u157z1 u158z1 u159z1 u160z1 u161z1 u162z1 u163z1 u164z1 u165z1 u166z1 u167z1 u168z1 u169z1 u170z1 u171z1 u172z1 u173z1 u174z1 u175z1 u176z1 u177z1 u178z1 u179z1 u180z1 u181z1 u182z1 u183z1 u184z1 u185z1 u186z1 u187z1 u188z1 u189z1 u190z1 u191z1 u192z1 u193z1 u194z1 u195z1 u196z1 u197z1 u198z1 u199z1 u200z1 u201z1 u202z1 u203z1 u204z1 u205z1 u206z1 u207z1 u208z1 u209z1 u210z1 u211z1 u212z1 u213z1 u214z1 u215z1 u216z1 u217z1 u218z1 u219z1 u220z1 u221z1 u222z1 u223z1 u224z1 u225z1 u226z1 u227z1 u228z1 u229z1 u230z1 u231z1 u232z1 u233z1 Q'z2 Kz2 az2 Kz3 az3 wcz1 u26z2 u27z2 u28z2 u29z2 u30z2 u31z2 u32z2 u33z2 u34z2 u35z2 u36z2 u37z2 u38z2 u39z2 u40z2 u41z2 u42z2 u43z2 u44z2 u45z2 u46z2 u47z2 u49z2 u50z2 u51z2 u52z2 u53z2 u54z2 u55z2 u56z2 u57z2 u58z2 u59z2 u60z2 u61z2 u62z2 u63z2 u64z2 u65z2 u66z2 u67z2 u68z2 u69z2 u70z2 u71z2 u72z2 u73z2 u74z2 u75z2 u76z2 u77z2 u78z2 u79z2 u80z2 u81z2 u82z2 u83z2 u84z2 u85z2 u86z2 u87z2 u88z2 u89z2 u90z2 u91z2 u92z2 u93z2 u94z2 u95z2 u96z2 u97z2 u98z2 u99z2 u100z2 u101z2 u102z2 u103z2 u104z2 u105z2 u106z2 u107z2 u108z2 u109z2 u110z2 u111z2 u112z2 u113z2 u114z2 u115z2 u116z2 u117z2 u118z2 u119z2 u120z2 u121z2 u122z2 u123z2 u124z2 u125z2 u126z2 u127z2 u128z2 u129z2 u130z2 u131z2 u132z2 u133z2 u134z2 u135z2 u136z2 u137z2 u138z2 u139z2 u140z2 u141z2 u142z2 u143z2 u144z2 u145z2 u146z2 u147z2 u148z2 u149z2 u150z2 u151z2 u152z2 u153z2 u154z2 u155z2 u156z2 u157z2 u158z2 u159z2 u160z2 u161z2 u162z2 u163z2 u164z2 u165z2 u166z2 u167z2 u168z2 u169z2 u170z2 u171z2 u172z2 u173z2 u174z2 u175z2 u176z2 u177z2 u178z2 u179z2 u180z2 u181z2 u182z2 u183z2 u184z2 u185z2 u186z2 u187z2 u188z2 u189z2 u190z2 u191z2 u192z2 u193z2 u194z2 u195z2 u196z2 u197z2 u198z2 u199z2 u200z2 u201z2 u202z2 u203z2 u204z2 u205z2 u206z2 u207z2 u208z2 u209z2 u210z2 u211z2 u212z2 u213z2 u214z2 u215z2 u216z2 u217z2 u218z2 u219z2 u220z2 u221z2 u222z2 u223z2 u224z2 u225z2 u226z2 u227z2 u228z2 u229z2 u230z2 u231z2 u232z2 u233z2
              revert w A0 n0 c0 z0 l0 m0 n1 c1 z1 l1 m1 HZ0 hn80 Q'z1 hz1 w0 HB0 w1 A lo hi b rb hlo hle gp gm W1 Kz1 az1 u4 u11 u12z1 u13z1 u14z1 u26z1 u27z1 u28z1 u29z1 u30z1 u31z1 u32z1 u33z1 u34z1 u35z1 u36z1 u37z1 u38z1 u39z1 u40z1 u41z1 u42z1 u43z1 u44z1 u45z1 u46z1 u47z1 u48z1 u49z1 u50z1 u51z1 u52z1 u53z1 u54z1 u55z1 u56z1 u57z1 u58z1 u59z1 u60z1 u61z1 u62z1 u63z1 u64z1 u65z1 u66z1 u67z1 u68z1 u69z1 u70z1 u71z1 u72z1 u73z1 u74z1 u75z1 u76z1 u77z1 u78z1 u79z1 u80z1 u81z1 u82z1 u83z1 u84z1 u85z1 u86z1 u87z1 u88z1 u89z1 u90z1 u91z1 u92z1 u93z1 u94z1 u95z1 u96z1 u97z1 u98z1 u99z1 u100z1 u101z1 u102z1 u103z1 u104z1 u105z1 u106z1 u107z1 u108z1 u109z1 u110z1 u111z1 u112z1 u113z1 u114z1 u115z1 u116z1 u117z1 u118z1 u119z1 u120z1 u121z1 u122z1 u123z1 u124z1 u125z1 u126z1 u127z1 u128z1 u129z1 u130z1 u131z1 u132z1 u133z1 u134z1 u135z1 u136z1 u137z1 u138z1 u139z1 u140z1 u141z1 u142z1 u143z1 u144z1 u145z1 u146z1 u147z1 u148z1 u149z1 u150z1 u151z1 u152z1 u153z1 u154z1 u155z1 u156z1 u157z1 u158z1 u159z1 u160z1 u161z1 u162z1 u163z1 u164z1 u165z1 u166z1 u167z1 u168z1 u169z1 u170z1 u171z1 u172z1 u173z1 u174z1 u175z1 u176z1 u177z1 u178z1 u179z1 u180z1 u181z1 u182z1 u183z1 u184z1 u185z1 u186z1 u187z1 u188z1 u189z1 u190z1 u191z1 u192z1 u193z1 u194z1 u195z1 u196z1 u197z1 u198z1 u199z1 u200z1 u201z1 u202z1 u203z1 u204z1 u205z1 u206z1 u207z1 u208z1 u209z1 u210z1 u211z1 u212z1 u213z1 u214z1 u215z1 u216z1 u217z1 u218z1 u219z1 u220z1 u221z1 u222z1 u223z1 u224z1 u225z1 u226z1 u227z1 u228z1 u229z1 u230z1 u231z1 u232z1 u233z1 i nn T L N held p rg hni hi1 Ah ch hlt hltI tb1 toff tx HZ1 htb t ht4 t3 Q'z2 Kz2 az2 Kz3 az3 wcz1 u26z2 u27z2 u28z2 u29z2 u30z2 u31z2 u32z2 u33z2 u34z2 u35z2 u36z2 u37z2 u38z2 u39z2 u40z2 u41z2 u42z2 u43z2 u44z2 u45z2 u46z2 u47z2 u49z2 u50z2 u51z2 u52z2 u53z2 u54z2 u55z2 u56z2 u57z2 u58z2 u59z2 u60z2 u61z2 u62z2 u63z2 u64z2 u65z2 u66z2 u67z2 u68z2 u69z2 u70z2 u71z2 u72z2 u73z2 u74z2 u75z2 u76z2 u77z2 u78z2 u79z2 u80z2 u81z2 u82z2 u83z2 u84z2 u85z2 u86z2 u87z2 u88z2 u89z2 u90z2 u91z2 u92z2 u93z2 u94z2 u95z2 u96z2 u97z2 u98z2 u99z2 u100z2 u101z2 u102z2 u103z2 u104z2 u105z2 u106z2 u107z2 u108z2 u109z2 u110z2 u111z2 u112z2 u113z2 u114z2 u115z2 u116z2 u117z2 u118z2 u119z2 u120z2 u121z2 u122z2 u123z2 u124z2 u125z2 u126z2 u127z2 u128z2 u129z2 u130z2 u131z2 u132z2 u133z2 u134z2 u135z2 u136z2 u137z2 u138z2 u139z2 u140z2 u141z2 u142z2 u143z2 u144z2 u145z2 u146z2 u147z2 u148z2 u149z2 u150z2 u151z2 u152z2 u153z2 u154z2 u155z2 u156z2 u157z2 u158z2 u159z2 u160z2 u161z2 u162z2 u163z2 u164z2 u165z2 u166z2 u167z2 u168z2 u169z2 u170z2 u171z2 u172z2 u173z2 u174z2 u175z2 u176z2 u177z2 u178z2 u179z2 u180z2 u181z2 u182z2 u183z2 u184z2 u185z2 u186z2 u187z2 u188z2 u189z2 u190z2 u191z2 u192z2 u193z2 u194z2 u195z2 u196z2 u197z2 u198z2 u199z2 u200z2 u201z2 u202z2 u203z2 u204z2 u205z2 u206z2 u207z2 u208z2 u209z2 u210z2 u211z2 u212z2 u213z2 u214z2 u215z2 u216z2 u217z2 u218z2 u219z2 u220z2 u221z2 u222z2 u223z2 u224z2 u225z2 u226z2 u227z2 u228z2 u229z2 u230z2 u231z2 u232z2 u233z2 wc u12 u13 u14 u26 u27 u28 u29 u30 u31 u32 u33 u34 u35 u36 u37 u38 u39 u40 u41 u42 u43 u44 u45 u46 u47 u48 u49 u50 u51 u52 u53 u54 u55 u56 u57 u58 u59 u60 u61 u62 u63 u64 u65 u66 u67 u68 u69 u70 u71 u72 u73 u74 u75 u76 u77 u78 u79 u80 u81 u82 u83 u84 u85 u86 u87 u88 u89 u90 u91 u92 u93 u94 u95 u96 u97 u98 u99 u100 u101 u102 u103 u104 u105 u106 u107 u108 u109 u110 u111 u112 u113 u114 u115 u116 u117 u118 u119 u120 u121 u122 u123 u124 u125 u126 u127 u128 u129 u130 u131 u132 u133 u134 u135 u136 u137 u138 u139 u140 u141 u142 u143 u144 u145 u146 u147 u148 u149 u150 u151 u152 u153 u154 u155 u156 u157 u158 u159 u160 u161 u162 u163 u164 u165 u166 u167 u168 u169 u170 u171 u172 u173 u174 u175 u176 u177 u178 u179 u180 u181 u182 u183 u184 u185 u186 u187 u188 u189 u190 u191 u192 u193 u194 u195 u196 u197 u198 u199 u200 u201 u202 u203 u204 u205 u206 u207 u208 u209 u210 u211 u212 u213 u214 u215 u216 u217 u218 u219 u220 u221 u222 u223 u224 u225 u226 u227 u228 u229 u230 u231 u232 u233 nn' held' p' rg' hnn Ah' ch' HK4 HT4 HO4 hg4 hod HKL g st c bk x ho
              exact h4p.down
      · obtain rfl : i = n1 := by omega
        go_wp2_with fail
        refine (FreL.l_awake _).mono ?_
        rintro e w6 ⟨rfl, hb6⟩
        have HB6 := Lib.hid (below_trans2 HB0.out (below_trans2 HG.out.core.fl.old hb6))
        clear hb6
        go_wp2
        go_ret
        exact ⟨rfl, .of_below HB6.out⟩⟩
theorem piece_1 : Pc.1.1 := by
  intro w A0 n0 c0 z0 l0 m0 n1 c1 z1 l1 m1 HZ0 hn80 Q'z1 hz1 w0 HB0 w1 A lo hi b rb hlo hle gp gm W1 Kz1 az1 u4 u11 u12 u13 u14 u26z1 u27z1 u28z1 u29z1 u30z1 u31z1 u32z1 u33z1 u34z1 u35z1 u36z1 u37z1 u38z1 u39z1 u40z1 u41z1 u42z1 u43z1 u44z1 u45z1 u46z1 u47z1 u48 u49z1 u50z1 u51z1 u52z1 u53z1 u54z1 u55z1 u56z1 u57z1 u58z1 u59z1 u60z1 u61z1 u62z1 u63z1 u64z1 u65z1 u66z1 u67z1 u68z1 u69z1 u70z1 u71z1 u72z1 u73z1 u74z1 u75z1 u76z1 u77z1 u78z1 u79z1 u80z1 u81z1 u82z1 u83z1 u84z1 u85z1 u86z1 u87z1 u88z1 u89z1 u90z1 u91z1 u92z1 u93z1 u94z1 u95z1 u96z1 u97z1 u98z1 u99z1 u100z1 u101z1 u102z1 u103z1 u104z1 u105z1 u106z1 u107z1 u108z1 u109z1 u110z1 u111z1 u112z1 u113z1 u114z1 u115z1 u116z1 u117z1 u118z1 u119z1 u120z1 u121z1 u122z1 u123z1 u124z1 u125z1 u126z1 u127z1 u128z1 u129z1 u130z1 u131z1 u132z1 u133z1 u134z1 u135z1 u136z1 u137z1 u138z1 u139z1 u140z1 u141z1 u142z1 u143z1 u144z1 u145z1 u146z1 u147z1 u148z1 u149z1 u150z1 u151z1 u152z1 u153z1 u154z1 u155z1 u156z1 u157z1 u158z1 u159z1 u160z1 u161z1 u162z1 u163z1 u164z1 u165z1 u166z1 u167z1 u168z1 u169z1 u170z1 u171z1 u172z1 u173z1 u174z1 u175z1 u176z1 u177z1 u178z1 u179z1 u180z1 u181z1 u182z1 u183z1 u184z1 u185z1 u186z1 u187z1 u188z1 u189z1 u190z1 u191z1 u192z1 u193z1 u194z1 u195z1 u196z1 u197z1 u198z1 u199z1 u200z1 u201z1 u202z1 u203z1 u204z1 u205z1 u206z1 u207z1 u208z1 u209z1 u210z1 u211z1 u212z1 u213z1 u214z1 u215z1 u216z1 u217z1 u218z1 u219z1 u220z1 u221z1 u222z1 u223z1 u224z1 u225z1 u226z1 u227z1 u228z1 u229z1 u230z1 u231z1 u232z1 u233z1 i nn T L N held p rg hni hi1 Ah ch hlt hltI tb1 toff tx HZ1 htb t ht4 t3 Q'z2 Kz2 az2 Kz3 az3 wc u26 u27 u28 u29 u30 u31 u32 u33 u34 u35 u36 u37 u38 u39 u40 u41 u42 u43 u44 u45 u46 u47 u49 u50 u51 u52 u53 u54 u55 u56 u57 u58 u59 u60 u61 u62 u63 u64 u65 u66 u67 u68 u69 u70 u71 u72 u73 u74 u75 u76 u77 u78 u79 u80 u81 u82 u83 u84 u85 u86 u87 u88 u89 u90 u91 u92 u93 u94 u95 u96 u97 u98 u99 u100 u101 u102 u103 u104 u105 u106 u107 u108 u109 u110 u111 u112 u113 u114 u115 u116 u117 u118 u119 u120 u121 u122 u123 u124 u125 u126 u127 u128 u129 u130 u131 u132 u133 u134 u135 u136 u137 u138 u139 u140 u141 u142 u143 u144 u145 u146 u147 u148 u149 u150 u151 u152 u153 u154 u155 u156 u157 u158 u159 u160 u161 u162 u163 u164 u165 u166 u167 u168 u169 u170 u171 u172 u173 u174 u175 u176 u177 u178 u179 u180 u181 u182 u183 u184 u185 u186 u187 u188 u189 u190 u191 u192 u193 u194 u195 u196 u197 u198 u199 u200 u201 u202 u203 u204 u205 u206 u207 u208 u209 u210 u211 u212 u213 u214 u215 u216 u217 u218 u219 u220 u221 u222 u223 u224 u225 u226 u227 u228 u229 u230 u231 u232 u233 HG HT HO htc Jz1 K'z1 az4 az5 ho hB0 q4 hq4 m2 hpl2 hC1
  obtain ⟨hne, rfl⟩ := hC1
  obtain ⟨b0, held', rfl⟩ := List.exists_cons_of_ne_nil hne
  have hpos : (0 : Int) < ((b0 :: held').length : Nat) := by rw [List.length_cons]; omega
  obtain ⟨g9, off, cap9, e9, hB9, hlt9, hc9⟩ := HO.out.cell (by simp)
  injection e9 with e9 e10 e11
  subst e9 e11
  clear e10
  have hcw := hc9 0 b0 (by simp)
  rw [Nat.add_zero] at hcw
  clear hc9 hne
  go_upto_region 17 with (go_at_call 13; (with_reducible refine (hpl2 _).mono ?_); rintro e w11 ⟨rfl, rfl⟩)
  clear hcw hpl2 hq4 hpos
  go_cut [8] (fun hv wz => wz = wc ∧ ∃ A' c', hv = .slice A' held'.length c' ∧ Hid (OwnQ wc (gm + 1) (.slice A' held'.length c') (held'.map fun b : Nat => (b : Int))))
  case first =>
    have HT2 : ∀ A' c', (ch = 1 → c' = 0) → (ch ≠ 1 → A' = some ⟨g9, off + 1, none⟩ ∧ c' = ch - 1) → OwnQ wc (gm + 1) (.slice A' held'.length c') (held'.map fun b : Nat => (b : Int)) := fun A' c' h1 h2 => by
      have h := HO.out.tail A' (fun hc => by rw [(h2 hc).1]; rfl)
      have e : ch - 1 = c' := by
        by_cases hc : ch = 1
        · rw [h1 hc, hc]
        · exact (h2 hc).2.symm
      rw [e] at h
      exact h
    have HTT := Lib.hid HT2
    clear HT2 HG HT HO
    go_wp2_with fail
    all_goals go_meet
    all_goals exact ⟨rfl, _, _, rfl, Lib.hid (HTT.out _ _ (fun h => by first | rfl | omega) (fun h => by first | exact ⟨rfl, rfl⟩ | (exact absurd rfl h) | (exact absurd (by assumption) h)))⟩
  case rest =>
    obtain ⟨rfl, A', c', rfl, HO2⟩ := hcut
    have hb6 := HG.out.core.inv.hin b0 (by simp)
    have hcl : clsV hq b0 = (cl b0 : Int) := cl_of hb6
    have hcc : ∀ W, Calls Try.prog 14 #[cfgV hq, .int .i64 b0] W fun e w' => e = .returned (.int .i64 (cl b0)) ∧ Below W.heap.size W w' := fun W => by
      have h := LayF.r_class hq b0 W
      rw [hcl] at h
      exact h
    have hal := l_heap
    clear hcl HO
    go_upto_region 19 with (first
      | (go_at_call 12; (with_reducible refine (hal _).mono ?_); rintro e x1 ⟨rfl, hx1⟩)
      | (go_at_call 14; (with_reducible refine (hcc _).mono ?_); rintro e x2 ⟨rfl, hx2⟩))
    have hxx := below_trans2 hx1 (below_trans2 hx2 (below_drewN (Below.refl _ x2) 1))
    rw [show x2.drewN 1 = x2.drew from rfl] at hxx
    obtain ⟨g, r, W1, W2, W3, W4, hn1, hn2, hc2, hz2, hs2, hc3, hz3, hs3, hK4, hT4, hO4⟩ := begin_push (HG.out.below hxx) (HT.out.below hxx HT.out.lt) (HO2.out.below hxx) t3 ho (Int.le_refl _)
    have HN1 := Lib.hid hn1
    have HN2 := Lib.hid hn2
    have HC2 := Lib.hid hc2
    have HZ2 := Lib.hid hz2
    have KS2 := Lib.hid hs2
    have HC3 := Lib.hid hc3
    have HZ3 := Lib.hid hz3
    have KS3 := Lib.hid hs3
    have HK4 := Lib.hid hK4
    have HT4 := Lib.hid hT4
    have HO4 := Lib.hid hO4
    clear hn1 hn2 hc2 hz2 hs2 hc3 hz3 hs3 hK4 hT4 hO4
    clear hxx hx1 hx2 hal hcc HG HT HO2
    refine Rgn.region_lists (by kernel_rfl) [some 71, some 72, some 73, some 74, some 75, some 76, some 77, some 78, some 79, some 80, none, some 81, some 82, none]
      (fun gh => [.int .i64 t, .int .i64 t, .int .i64 (cl b0), .int .i64 b0, .pointer (some ⟨g, 0, none⟩), .int .i64 (cl b0), .int .i64 b0, .pointer (some ⟨r, 0, none⟩), .pointer (some ⟨gm, t * 4, none⟩), .pointer (some ⟨gm, t * 4 + 1, none⟩), undef, .pointer (some ⟨gm, t * 4, none⟩), .pointer (some ⟨gm, t * 4 + 3, none⟩), undef])
      (fun (_ : Unit) L w9 => w9 = st5 (L 4) (L 7) (L 10) (L 13) x2.drew W1 W2 W3 W4) () 14 235 (by kernel_rfl) (by kernel_rfl) (fun _ => rfl) (by kernel_rfl) (by kernel_rfl) rfl ?_ ?_
    · skip
      --@@Q 1
      intro i hi gh L a wq hS hLi hup hdn hold hv K hK
      have hi' : i = 0 ∨ i = 1 ∨ i = 2 ∨ i = 3 ∨ i = 4 ∨ i = 5 ∨ i = 6 ∨ i = 7 ∨ i = 8 ∨ i = 9 ∨ i = 10 ∨ i = 11 ∨ i = 12 ∨ i = 13 := by omega
      clear hi
      rcases hi' with rfl | rfl | rfl | rfl | rfl | rfl | rfl | rfl | rfl | rfl | rfl | rfl | rfl | rfl
      · have q11 : a.tmps[11]?.getD undef = .int .i64 t := (hold 11 (by kernel_rfl)).trans (by kernel_rfl)
        have HS := Lib.hid hS
        clear hS hup hdn hold hv hLi
        refine Rgn.op_of rfl rfl ?_
        go_simp
        exact hK () _ (fun _ _ _ => rfl) HS.out
      · have q11 : a.tmps[11]?.getD undef = .int .i64 t := (hold 11 (by kernel_rfl)).trans (by kernel_rfl)
        have HS := Lib.hid hS
        clear hS hup hdn hold hv hLi
        refine Rgn.op_of rfl rfl ?_
        go_simp
        exact hK () _ (fun _ _ _ => rfl) HS.out
      · have q13 : a.tmps[13]?.getD undef = .int .i64 (cl b0) := (hold 13 (by kernel_rfl)).trans (by kernel_rfl)
        have HS := Lib.hid hS
        clear hS hup hdn hold hv hLi
        refine Rgn.op_of rfl rfl ?_
        go_simp
        exact hK () _ (fun _ _ _ => rfl) HS.out
      · have q12 : a.tmps[12]?.getD undef = .int .i64 b0 := (hold 12 (by kernel_rfl)).trans (by kernel_rfl)
        have HS := Lib.hid hS
        clear hS hup hdn hold hv hLi
        refine Rgn.op_of rfl rfl ?_
        go_simp
        exact hK () _ (fun _ _ _ => rfl) HS.out
      · have q73 : a.tmps[73]?.getD undef = .int .i64 (cl b0) := hv 2 73 (by kernel_rfl) (by kernel_rfl)
        have q74 : a.tmps[74]?.getD undef = .int .i64 b0 := hv 3 74 (by kernel_rfl) (by kernel_rfl)
        have z4 : L 4 = false := hLi
        have z7 : L 7 = false := hdn 7 rfl (by kernel_rfl)
        have h0 : wq = st5 (L 4) (L 7) (L 10) (L 13) x2.drew W1 W2 W3 W4 := hS
        rw [z4] at h0
        have hw : wq = x2.drew := h0
        have hn1 := HN1.out
        rw [← hw] at hn1
        clear hw h0
        have HS := Lib.hid hS
        clear hS hup hdn hold hv hLi
        refine Rgn.op_of rfl rfl ?_
        go_simp
        go_at_call 15
        (with_reducible refine (hn1).mono ?_)
        rintro e w5 ⟨rfl, hw5⟩
        refine hK () _ (fun _ _ _ => rfl) ?_
        show _ = st5 (Rgn.mark L 4 4) (Rgn.mark L 4 7) (Rgn.mark L 4 10) (Rgn.mark L 4 13) x2.drew W1 W2 W3 W4
        rw [Rgn.mark_self, Rgn.mark_ne (show 7 ≠ 4 by decide), Rgn.mark_ne (show 10 ≠ 4 by decide), Rgn.mark_ne (show 13 ≠ 4 by decide), z7]
        exact hw5
      · have q13 : a.tmps[13]?.getD undef = .int .i64 (cl b0) := (hold 13 (by kernel_rfl)).trans (by kernel_rfl)
        have HS := Lib.hid hS
        clear hS hup hdn hold hv hLi
        refine Rgn.op_of rfl rfl ?_
        go_simp
        exact hK () _ (fun _ _ _ => rfl) HS.out
      · have q12 : a.tmps[12]?.getD undef = .int .i64 b0 := (hold 12 (by kernel_rfl)).trans (by kernel_rfl)
        have HS := Lib.hid hS
        clear hS hup hdn hold hv hLi
        refine Rgn.op_of rfl rfl ?_
        go_simp
        exact hK () _ (fun _ _ _ => rfl) HS.out
      · have q76 : a.tmps[76]?.getD undef = .int .i64 (cl b0) := hv 5 76 (by kernel_rfl) (by kernel_rfl)
        have q77 : a.tmps[77]?.getD undef = .int .i64 b0 := hv 6 77 (by kernel_rfl) (by kernel_rfl)
        have z4 : L 4 = true := hup 4 (by kernel_rfl)
        have z7 : L 7 = false := hLi
        have z10 : L 10 = false := hdn 10 rfl (by kernel_rfl)
        have h0 : wq = st5 (L 4) (L 7) (L 10) (L 13) x2.drew W1 W2 W3 W4 := hS
        rw [z4, z7] at h0
        have hw : wq = W1 := h0
        have hn2 := HN2.out
        rw [← hw] at hn2
        clear hw h0
        have HS := Lib.hid hS
        clear hS hup hdn hold hv hLi
        refine Rgn.op_of rfl rfl ?_
        go_simp
        go_at_call 16
        (with_reducible refine (hn2).mono ?_)
        rintro e w5 ⟨rfl, hw5⟩
        refine hK () _ (fun _ _ _ => rfl) ?_
        show _ = st5 (Rgn.mark L 7 4) (Rgn.mark L 7 7) (Rgn.mark L 7 10) (Rgn.mark L 7 13) x2.drew W1 W2 W3 W4
        rw [Rgn.mark_self, Rgn.mark_ne (show 4 ≠ 7 by decide), Rgn.mark_ne (show 10 ≠ 7 by decide), Rgn.mark_ne (show 13 ≠ 7 by decide), z4, z10]
        exact hw5
      · have q7 : a.tmps[7]?.getD undef = .pointer (some ⟨gm, 0, none⟩) := (hold 7 (by kernel_rfl)).trans (by kernel_rfl)
        have q71 : a.tmps[71]?.getD undef = .int .i64 t := hv 0 71 (by kernel_rfl) (by kernel_rfl)
        have HS := Lib.hid hS
        clear hS hup hdn hold hv hLi
        refine Rgn.op_of rfl rfl ?_
        go_simp
        exact hK () _ (fun _ _ _ => rfl) HS.out
      · have q79 : a.tmps[79]?.getD undef = .pointer (some ⟨gm, t * 4, none⟩) := hv 8 79 (by kernel_rfl) (by kernel_rfl)
        have HS := Lib.hid hS
        clear hS hup hdn hold hv hLi
        refine Rgn.op_of rfl rfl ?_
        go_simp
        exact hK () _ (fun _ _ _ => rfl) HS.out
      · have q80 : a.tmps[80]?.getD undef = .pointer (some ⟨gm, t * 4 + 1, none⟩) := hv 9 80 (by kernel_rfl) (by kernel_rfl)
        have q75 : a.tmps[75]?.getD undef = .pointer (some ⟨g, 0, none⟩) := hv 4 75 (by kernel_rfl) (by kernel_rfl)
        have z4 : L 4 = true := hup 4 (by kernel_rfl)
        have z7 : L 7 = true := hup 7 (by kernel_rfl)
        have z10 : L 10 = false := hLi
        have z13 : L 13 = false := hdn 13 rfl (by kernel_rfl)
        have h0 : wq = st5 (L 4) (L 7) (L 10) (L 13) x2.drew W1 W2 W3 W4 := hS
        rw [z4, z7, z10] at h0
        have hw : wq = W2 := h0
        have hc2 := HC2.out
        have hz2 := HZ2.out
        have hs2 := KS2.out
        rw [← hw] at hc2 hz2 hs2
        have HSX := Lib.hid hs2
        clear hw h0 hs2
        have HS := Lib.hid hS
        clear hS hup hdn hold hv hLi
        refine Rgn.op_of rfl rfl ?_
        go_simp
        refine hK () _ (fun _ _ _ => rfl) ?_
        show _ = st5 (Rgn.mark L 10 4) (Rgn.mark L 10 7) (Rgn.mark L 10 10) (Rgn.mark L 10 13) x2.drew W1 W2 W3 W4
        rw [Rgn.mark_self, Rgn.mark_ne (show 4 ≠ 10 by decide), Rgn.mark_ne (show 7 ≠ 10 by decide), Rgn.mark_ne (show 13 ≠ 10 by decide), z4, z7, z13]
        exact HSX.out
      · have q7 : a.tmps[7]?.getD undef = .pointer (some ⟨gm, 0, none⟩) := (hold 7 (by kernel_rfl)).trans (by kernel_rfl)
        have q72 : a.tmps[72]?.getD undef = .int .i64 t := hv 1 72 (by kernel_rfl) (by kernel_rfl)
        have HS := Lib.hid hS
        clear hS hup hdn hold hv hLi
        refine Rgn.op_of rfl rfl ?_
        go_simp
        exact hK () _ (fun _ _ _ => rfl) HS.out
      · have q81 : a.tmps[81]?.getD undef = .pointer (some ⟨gm, t * 4, none⟩) := hv 11 81 (by kernel_rfl) (by kernel_rfl)
        have HS := Lib.hid hS
        clear hS hup hdn hold hv hLi
        refine Rgn.op_of rfl rfl ?_
        go_simp
        exact hK () _ (fun _ _ _ => rfl) HS.out
      · have q82 : a.tmps[82]?.getD undef = .pointer (some ⟨gm, t * 4 + 3, none⟩) := hv 12 82 (by kernel_rfl) (by kernel_rfl)
        have q78 : a.tmps[78]?.getD undef = .pointer (some ⟨r, 0, none⟩) := hv 7 78 (by kernel_rfl) (by kernel_rfl)
        have z4 : L 4 = true := hup 4 (by kernel_rfl)
        have z7 : L 7 = true := hup 7 (by kernel_rfl)
        have z10 : L 10 = true := hup 10 (by kernel_rfl)
        have z13 : L 13 = false := hLi
        have h0 : wq = st5 (L 4) (L 7) (L 10) (L 13) x2.drew W1 W2 W3 W4 := hS
        rw [z4, z7, z10, z13] at h0
        have hw : wq = W3 := h0
        have hc3 := HC3.out
        have hz3 := HZ3.out
        have hs3 := KS3.out
        rw [← hw] at hc3 hz3 hs3
        have HSX := Lib.hid hs3
        clear hw h0 hs3
        have HS := Lib.hid hS
        clear hS hup hdn hold hv hLi
        refine Rgn.op_of rfl rfl ?_
        go_simp
        refine hK () _ (fun _ _ _ => rfl) ?_
        show _ = st5 (Rgn.mark L 13 4) (Rgn.mark L 13 7) (Rgn.mark L 13 10) (Rgn.mark L 13 13) x2.drew W1 W2 W3 W4
        rw [Rgn.mark_self, Rgn.mark_ne (show 4 ≠ 13 by decide), Rgn.mark_ne (show 7 ≠ 13 by decide), Rgn.mark_ne (show 10 ≠ 13 by decide), z4, z7, z10]
        exact HSX.out
      --@@F 1
    · skip
      --@@Q 2
      intro gh L wq hall hS
      have h0 : wq = st5 (L 4) (L 7) (L 10) (L 13) x2.drew W1 W2 W3 W4 := hS
      rw [hall 4 rfl, hall 7 rfl, hall 10 rfl, hall 13 rfl] at h0
      have hw : wq = W4 := h0
      clear h0 hS hall
      rw [← hw] at HK4 HT4 HO4
      clear hw HN1 HN2 HC2 HZ2 KS2 HC3 HZ3 KS3
      simp only [Rgn.putAll, Act.put]
      go_simp
      go_at_K
      go_wp2_with fail
      all_goals go_meet
      all_goals exact ⟨nn + 1, held', _, _, by first | rfl | (congr 1; omega), by omega, ⟨_, _, rfl⟩, HK4, HT4, HO4, by rw [up_at]; simp [gOf]⟩
      --@@F 2
theorem piece_2 : Pc.1.2.1 := by
  intro w A0 n0 c0 z0 l0 m0 n1 c1 z1 l1 m1 HZ0 hn80 Q'z1 hz1 w0 HB0 w1 A lo hi b rb hlo hle gp gm W1 Kz1 az1 u4 u11 u12 u13 u14 u26z1 u27z1 u28z1 u29z1 u30z1 u31z1 u32z1 u33z1 u34z1 u35z1 u36z1 u37z1 u38z1 u39z1 u40z1 u41z1 u42z1 u43z1 u44z1 u45z1 u46z1 u47z1 u48 u49z1 u50z1 u51z1 u52z1 u53z1 u54z1 u55z1 u56z1 u57z1 u58z1 u59z1 u60z1 u61z1 u62z1 u63z1 u64z1 u65z1 u66z1 u67z1 u68z1 u69z1 u70z1 u71z1 u72z1 u73z1 u74z1 u75z1 u76z1 u77z1 u78z1 u79z1 u80z1 u81z1 u82z1 u83z1 u84z1 u85z1 u86z1 u87z1 u88z1 u89z1 u90z1 u91z1 u92z1 u93z1 u94z1 u95z1 u96z1 u97z1 u98z1 u99z1 u100z1 u101z1 u102z1 u103z1 u104z1 u105z1 u106z1 u107z1 u108z1 u109z1 u110z1 u111z1 u112z1 u113z1 u114z1 u115z1 u116z1 u117z1 u118z1 u119z1 u120z1 u121z1 u122z1 u123z1 u124z1 u125z1 u126z1 u127z1 u128z1 u129z1 u130z1 u131z1 u132z1 u133z1 u134z1 u135z1 u136z1 u137z1 u138z1 u139z1 u140z1 u141z1 u142z1 u143z1 u144z1 u145z1 u146z1 u147z1 u148z1 u149z1 u150z1 u151z1 u152z1 u153z1 u154z1 u155z1 u156z1 u157z1 u158z1 u159z1 u160z1 u161z1 u162z1 u163z1 u164z1 u165z1 u166z1 u167z1 u168z1 u169z1 u170z1 u171z1 u172z1 u173z1 u174z1 u175z1 u176z1 u177z1 u178z1 u179z1 u180z1 u181z1 u182z1 u183z1 u184z1 u185z1 u186z1 u187z1 u188z1 u189z1 u190z1 u191z1 u192z1 u193z1 u194z1 u195z1 u196z1 u197z1 u198z1 u199z1 u200z1 u201z1 u202z1 u203z1 u204z1 u205z1 u206z1 u207z1 u208z1 u209z1 u210z1 u211z1 u212z1 u213z1 u214z1 u215z1 u216z1 u217z1 u218z1 u219z1 u220z1 u221z1 u222z1 u223z1 u224z1 u225z1 u226z1 u227z1 u228z1 u229z1 u230z1 u231z1 u232z1 u233z1 i nn T L N held p rg hni hi1 Ah ch hlt hltI tb1 toff tx HZ1 htb t ht4 t3 Q'z2 Kz2 az2 Kz3 az3 wc u26 u27 u28 u29 u30 u31 u32 u33 u34 u35 u36 u37 u38 u39 u40 u41 u42 u43 u44 u45 u46 u47 u49 u50 u51 u52 u53 u54 u55 u56 u57 u58 u59 u60 u61 u62 u63 u64 u65 u66 u67 u68 u69 u70 u71 u72 u73 u74 u75 u76 u77 u78 u79 u80 u81 u82 u83 u84 u85 u86 u87 u88 u89 u90 u91 u92 u93 u94 u95 u96 u97 u98 u99 u100 u101 u102 u103 u104 u105 u106 u107 u108 u109 u110 u111 u112 u113 u114 u115 u116 u117 u118 u119 u120 u121 u122 u123 u124 u125 u126 u127 u128 u129 u130 u131 u132 u133 u134 u135 u136 u137 u138 u139 u140 u141 u142 u143 u144 u145 u146 u147 u148 u149 u150 u151 u152 u153 u154 u155 u156 u157 u158 u159 u160 u161 u162 u163 u164 u165 u166 u167 u168 u169 u170 u171 u172 u173 u174 u175 u176 u177 u178 u179 u180 u181 u182 u183 u184 u185 u186 u187 u188 u189 u190 u191 u192 u193 u194 u195 u196 u197 u198 u199 u200 u201 u202 u203 u204 u205 u206 u207 u208 u209 u210 u211 u212 u213 u214 u215 u216 u217 u218 u219 u220 u221 u222 u223 u224 u225 u226 u227 u228 u229 u230 u231 u232 u233 HG HT HO htc Jz1 K'z1 az4 az5 ho hB0 q4 hq4 m2 hpl2 hC1
  have hcond : (∃ hz : held = [], True) ∨ ((0 : Int) < (held.length : Nat) ∧ (m2 == 0) = false) := by
    by_cases hz : held = []
    · exact .inl ⟨hz, trivial⟩
    · refine .inr ⟨by have := List.length_pos_iff.2 hz; omega, ?_⟩
      simp
      exact fun h => hC1 ⟨hz, h⟩
  clear hC1
  have hat := k_at c0 HZ0.out hB0 (nn + 1)
  rw [show ((nn + 1 : Nat) : Int) = (nn : Int) + 1 by omega] at hat
  clear hB0
  go_upto_region 15 with (fail)
  go_cut [62] (fun cv wz => cv = .bool false ∧ wz = wc)
  case first =>
    rcases hcond with ⟨rfl, _⟩ | ⟨hpos, hm⟩
    · go_wp2_with fail
      all_goals go_meet
      all_goals exact ⟨rfl, rfl⟩
    · go_wp2_with (go_at_call 13; (with_reducible refine (hpl2 _).mono ?_); rintro e w11 ⟨rfl, rfl⟩)
      all_goals go_meet
      all_goals exact ⟨rfl, rfl⟩
  case rest =>
    obtain ⟨rfl, rfl⟩ := hcut
    clear hpl2 hq4 hcond htc
    go_upto_region 21 with (first
      | (go_at_call 17; (with_reducible refine hat.mono ?_); rintro e w9 ⟨v9, rfl, rfl⟩)
      | (go_at_call 13; (with_reducible refine (k_place_ex _ _ (by decide) (by decide) _).mono ?_); rintro e w10 ⟨u9, v0, v1, rfl, rfl⟩))
    obtain ⟨cc, hcc⟩ : ∃ cc : Nat, u9 = cc := ⟨u9.toNat, by omega⟩
    subst hcc
    have hWW := below_drewN (Below.refl wc.heap.size wc) 1
    rw [show wc.drewN 1 = wc.drew from rfl] at hWW
    obtain ⟨g, r, W1, W2, W3, W4, hn1, hn2, hc2, hz2, hs2, hc3, hz3, hs3, hK4, hT4, hO4⟩ := begin_pop (HG.out.below hWW) (HT.out.below hWW HT.out.lt) (HO.out.below hWW) t3 ho (by omega : cc ≤ 3) (Int.le_refl _)
    have HN1 := Lib.hid hn1
    have HN2 := Lib.hid hn2
    have HC2 := Lib.hid hc2
    have HZ2 := Lib.hid hz2
    have KS2 := Lib.hid hs2
    have HC3 := Lib.hid hc3
    have HZ3 := Lib.hid hz3
    have KS3 := Lib.hid hs3
    have HK4 := Lib.hid hK4
    have HT4 := Lib.hid hT4
    have HO4 := Lib.hid hO4
    clear hn1 hn2 hc2 hz2 hs2 hc3 hz3 hs3 hK4 hT4 hO4
    clear hWW hat HG HT HO v0 v1
    refine Rgn.region_lists (by kernel_rfl) [some 87, some 88, some 89, some 90, some 91, some 92, some 93, some 94, none, some 95, some 96, none]
      (fun gh => [.int .i64 t, .int .i64 t, .int .i64 cc, .pointer (some ⟨g, 0, none⟩), .int .i64 cc, .pointer (some ⟨r, 0, none⟩), .pointer (some ⟨gm, t * 4, none⟩), .pointer (some ⟨gm, t * 4, none⟩), undef, .pointer (some ⟨gm, t * 4, none⟩), .pointer (some ⟨gm, t * 4 + 2, none⟩), undef])
      (fun (_ : Unit) L w9 => w9 = st5 (L 3) (L 5) (L 8) (L 11) wc.drew W1 W2 W3 W4) () 12 235 (by kernel_rfl) (by kernel_rfl) (fun _ => rfl) (by kernel_rfl) (by kernel_rfl) rfl ?_ ?_
    · skip
      --@@Q 1
      intro i hi gh L a wq hS hLi hup hdn hold hv K hK
      have hi' : i = 0 ∨ i = 1 ∨ i = 2 ∨ i = 3 ∨ i = 4 ∨ i = 5 ∨ i = 6 ∨ i = 7 ∨ i = 8 ∨ i = 9 ∨ i = 10 ∨ i = 11 := by omega
      clear hi
      rcases hi' with rfl | rfl | rfl | rfl | rfl | rfl | rfl | rfl | rfl | rfl | rfl | rfl
      · have q11 : a.tmps[11]?.getD undef = .int .i64 t := (hold 11 (by kernel_rfl)).trans (by kernel_rfl)
        have HS := Lib.hid hS
        clear hS hup hdn hold hv hLi
        refine Rgn.op_of rfl rfl ?_
        go_simp
        exact hK () _ (fun _ _ _ => rfl) HS.out
      · have q11 : a.tmps[11]?.getD undef = .int .i64 t := (hold 11 (by kernel_rfl)).trans (by kernel_rfl)
        have HS := Lib.hid hS
        clear hS hup hdn hold hv hLi
        refine Rgn.op_of rfl rfl ?_
        go_simp
        exact hK () _ (fun _ _ _ => rfl) HS.out
      · have q14 : a.tmps[14]?.getD undef = .int .i64 cc := (hold 14 (by kernel_rfl)).trans (by kernel_rfl)
        have HS := Lib.hid hS
        clear hS hup hdn hold hv hLi
        refine Rgn.op_of rfl rfl ?_
        go_simp
        exact hK () _ (fun _ _ _ => rfl) HS.out
      · have q89 : a.tmps[89]?.getD undef = .int .i64 cc := hv 2 89 (by kernel_rfl) (by kernel_rfl)
        have z3 : L 3 = false := hLi
        have z5 : L 5 = false := hdn 5 rfl (by kernel_rfl)
        have h0 : wq = st5 (L 3) (L 5) (L 8) (L 11) wc.drew W1 W2 W3 W4 := hS
        rw [z3] at h0
        have hw : wq = wc.drew := h0
        have hn1 := HN1.out
        rw [← hw] at hn1
        clear hw h0
        have HS := Lib.hid hS
        clear hS hup hdn hold hv hLi
        refine Rgn.op_of rfl rfl ?_
        go_simp
        go_at_call 18
        (with_reducible refine (hn1).mono ?_)
        rintro e w5 ⟨rfl, hw5⟩
        refine hK () _ (fun _ _ _ => rfl) ?_
        show _ = st5 (Rgn.mark L 3 3) (Rgn.mark L 3 5) (Rgn.mark L 3 8) (Rgn.mark L 3 11) wc.drew W1 W2 W3 W4
        rw [Rgn.mark_self, Rgn.mark_ne (show 5 ≠ 3 by decide), Rgn.mark_ne (show 8 ≠ 3 by decide), Rgn.mark_ne (show 11 ≠ 3 by decide), z5]
        exact hw5
      · have q14 : a.tmps[14]?.getD undef = .int .i64 cc := (hold 14 (by kernel_rfl)).trans (by kernel_rfl)
        have HS := Lib.hid hS
        clear hS hup hdn hold hv hLi
        refine Rgn.op_of rfl rfl ?_
        go_simp
        exact hK () _ (fun _ _ _ => rfl) HS.out
      · have q91 : a.tmps[91]?.getD undef = .int .i64 cc := hv 4 91 (by kernel_rfl) (by kernel_rfl)
        have z3 : L 3 = true := hup 3 (by kernel_rfl)
        have z5 : L 5 = false := hLi
        have z8 : L 8 = false := hdn 8 rfl (by kernel_rfl)
        have h0 : wq = st5 (L 3) (L 5) (L 8) (L 11) wc.drew W1 W2 W3 W4 := hS
        rw [z3, z5] at h0
        have hw : wq = W1 := h0
        have hn2 := HN2.out
        rw [← hw] at hn2
        clear hw h0
        have HS := Lib.hid hS
        clear hS hup hdn hold hv hLi
        refine Rgn.op_of rfl rfl ?_
        go_simp
        go_at_call 19
        (with_reducible refine (hn2).mono ?_)
        rintro e w5 ⟨rfl, hw5⟩
        refine hK () _ (fun _ _ _ => rfl) ?_
        show _ = st5 (Rgn.mark L 5 3) (Rgn.mark L 5 5) (Rgn.mark L 5 8) (Rgn.mark L 5 11) wc.drew W1 W2 W3 W4
        rw [Rgn.mark_self, Rgn.mark_ne (show 3 ≠ 5 by decide), Rgn.mark_ne (show 8 ≠ 5 by decide), Rgn.mark_ne (show 11 ≠ 5 by decide), z3, z8]
        exact hw5
      · have q7 : a.tmps[7]?.getD undef = .pointer (some ⟨gm, 0, none⟩) := (hold 7 (by kernel_rfl)).trans (by kernel_rfl)
        have q87 : a.tmps[87]?.getD undef = .int .i64 t := hv 0 87 (by kernel_rfl) (by kernel_rfl)
        have HS := Lib.hid hS
        clear hS hup hdn hold hv hLi
        refine Rgn.op_of rfl rfl ?_
        go_simp
        exact hK () _ (fun _ _ _ => rfl) HS.out
      · have q93 : a.tmps[93]?.getD undef = .pointer (some ⟨gm, t * 4, none⟩) := hv 6 93 (by kernel_rfl) (by kernel_rfl)
        have HS := Lib.hid hS
        clear hS hup hdn hold hv hLi
        refine Rgn.op_of rfl rfl ?_
        go_simp
        exact hK () _ (fun _ _ _ => rfl) HS.out
      · have q94 : a.tmps[94]?.getD undef = .pointer (some ⟨gm, t * 4, none⟩) := hv 7 94 (by kernel_rfl) (by kernel_rfl)
        have q90 : a.tmps[90]?.getD undef = .pointer (some ⟨g, 0, none⟩) := hv 3 90 (by kernel_rfl) (by kernel_rfl)
        have z3 : L 3 = true := hup 3 (by kernel_rfl)
        have z5 : L 5 = true := hup 5 (by kernel_rfl)
        have z8 : L 8 = false := hLi
        have z11 : L 11 = false := hdn 11 rfl (by kernel_rfl)
        have h0 : wq = st5 (L 3) (L 5) (L 8) (L 11) wc.drew W1 W2 W3 W4 := hS
        rw [z3, z5, z8] at h0
        have hw : wq = W2 := h0
        have hc2 := HC2.out
        have hz2 := HZ2.out
        have hs2 := KS2.out
        rw [← hw] at hc2 hz2 hs2
        have HSX := Lib.hid hs2
        clear hw h0 hs2
        have HS := Lib.hid hS
        clear hS hup hdn hold hv hLi
        refine Rgn.op_of rfl rfl ?_
        go_simp
        refine hK () _ (fun _ _ _ => rfl) ?_
        show _ = st5 (Rgn.mark L 8 3) (Rgn.mark L 8 5) (Rgn.mark L 8 8) (Rgn.mark L 8 11) wc.drew W1 W2 W3 W4
        rw [Rgn.mark_self, Rgn.mark_ne (show 3 ≠ 8 by decide), Rgn.mark_ne (show 5 ≠ 8 by decide), Rgn.mark_ne (show 11 ≠ 8 by decide), z3, z5, z11]
        exact HSX.out
      · have q7 : a.tmps[7]?.getD undef = .pointer (some ⟨gm, 0, none⟩) := (hold 7 (by kernel_rfl)).trans (by kernel_rfl)
        have q88 : a.tmps[88]?.getD undef = .int .i64 t := hv 1 88 (by kernel_rfl) (by kernel_rfl)
        have HS := Lib.hid hS
        clear hS hup hdn hold hv hLi
        refine Rgn.op_of rfl rfl ?_
        go_simp
        exact hK () _ (fun _ _ _ => rfl) HS.out
      · have q95 : a.tmps[95]?.getD undef = .pointer (some ⟨gm, t * 4, none⟩) := hv 9 95 (by kernel_rfl) (by kernel_rfl)
        have HS := Lib.hid hS
        clear hS hup hdn hold hv hLi
        refine Rgn.op_of rfl rfl ?_
        go_simp
        exact hK () _ (fun _ _ _ => rfl) HS.out
      · have q96 : a.tmps[96]?.getD undef = .pointer (some ⟨gm, t * 4 + 2, none⟩) := hv 10 96 (by kernel_rfl) (by kernel_rfl)
        have q92 : a.tmps[92]?.getD undef = .pointer (some ⟨r, 0, none⟩) := hv 5 92 (by kernel_rfl) (by kernel_rfl)
        have z3 : L 3 = true := hup 3 (by kernel_rfl)
        have z5 : L 5 = true := hup 5 (by kernel_rfl)
        have z8 : L 8 = true := hup 8 (by kernel_rfl)
        have z11 : L 11 = false := hLi
        have h0 : wq = st5 (L 3) (L 5) (L 8) (L 11) wc.drew W1 W2 W3 W4 := hS
        rw [z3, z5, z8, z11] at h0
        have hw : wq = W3 := h0
        have hc3 := HC3.out
        have hz3 := HZ3.out
        have hs3 := KS3.out
        rw [← hw] at hc3 hz3 hs3
        have HSX := Lib.hid hs3
        clear hw h0 hs3
        have HS := Lib.hid hS
        clear hS hup hdn hold hv hLi
        refine Rgn.op_of rfl rfl ?_
        go_simp
        refine hK () _ (fun _ _ _ => rfl) ?_
        show _ = st5 (Rgn.mark L 11 3) (Rgn.mark L 11 5) (Rgn.mark L 11 8) (Rgn.mark L 11 11) wc.drew W1 W2 W3 W4
        rw [Rgn.mark_self, Rgn.mark_ne (show 3 ≠ 11 by decide), Rgn.mark_ne (show 5 ≠ 11 by decide), Rgn.mark_ne (show 8 ≠ 11 by decide), z3, z5, z8]
        exact HSX.out
      --@@F 1
    · skip
      --@@Q 2
      intro gh L wq hall hS
      have h0 : wq = st5 (L 3) (L 5) (L 8) (L 11) wc.drew W1 W2 W3 W4 := hS
      rw [hall 3 rfl, hall 5 rfl, hall 8 rfl, hall 11 rfl] at h0
      have hw : wq = W4 := h0
      clear h0 hS hall
      rw [← hw] at HK4 HT4 HO4
      clear hw HN1 HN2 HC2 HZ2 KS2 HC3 HZ3 KS3
      simp only [Rgn.putAll, Act.put]
      go_simp
      go_at_K
      go_wp2_with fail
      all_goals go_meet
      all_goals exact ⟨nn + 1, held, _, _, by first | rfl | (congr 1; omega), by omega, ⟨_, _, rfl⟩, HK4, HT4, HO4, by rw [up_at]; simp [gOf]⟩
      --@@F 2
theorem piece_3 : Pc.1.2.2.1 := by
  intro w A0 n0 c0 z0 l0 m0 n1 c1 z1 l1 m1 HZ0 hn80 Q'z1 hz1 w0 HB0 w1 A lo hi b rb hlo hle gp gm W1 Kz1 az1 u4 u11 u12z1 u13z1 u14z1 u26z1 u27z1 u28z1 u29z1 u30z1 u31z1 u32z1 u33z1 u34z1 u35z1 u36z1 u37z1 u38z1 u39z1 u40z1 u41z1 u42z1 u43z1 u44z1 u45z1 u46z1 u47z1 u48z1 u49z1 u50z1 u51z1 u52z1 u53z1 u54z1 u55z1 u56z1 u57z1 u58z1 u59z1 u60z1 u61z1 u62z1 u63z1 u64z1 u65z1 u66z1 u67z1 u68z1 u69z1 u70z1 u71z1 u72z1 u73z1 u74z1 u75z1 u76z1 u77z1 u78z1 u79z1 u80z1 u81z1 u82z1 u83z1 u84z1 u85z1 u86z1 u87z1 u88z1 u89z1 u90z1 u91z1 u92z1 u93z1 u94z1 u95z1 u96z1 u97z1 u98z1 u99z1 u100z1 u101z1 u102z1 u103z1 u104z1 u105z1 u106z1 u107z1 u108z1 u109z1 u110z1 u111z1 u112z1 u113z1 u114z1 u115z1 u116z1 u117z1 u118z1 u119z1 u120z1 u121z1 u122z1 u123z1 u124z1 u125z1 u126z1 u127z1 u128z1 u129z1 u130z1 u131z1 u132z1 u133z1 u134z1 u135z1 u136z1 u137z1 u138z1 u139z1 u140z1 u141z1 u142z1 u143z1 u144z1 u145z1 u146z1 u147z1 u148z1 u149z1 u150z1 u151z1 u152z1 u153z1 u154z1 u155z1 u156z1 u157z1 u158z1 u159z1 u160z1 u161z1 u162z1 u163z1 u164z1 u165z1 u166z1 u167z1 u168z1 u169z1 u170z1 u171z1 u172z1 u173z1 u174z1 u175z1 u176z1 u177z1 u178z1 u179z1 u180z1 u181z1 u182z1 u183z1 u184z1 u185z1 u186z1 u187z1 u188z1 u189z1 u190z1 u191z1 u192z1 u193z1 u194z1 u195z1 u196z1 u197z1 u198z1 u199z1 u200z1 u201z1 u202z1 u203z1 u204z1 u205z1 u206z1 u207z1 u208z1 u209z1 u210z1 u211z1 u212z1 u213z1 u214z1 u215z1 u216z1 u217z1 u218z1 u219z1 u220z1 u221z1 u222z1 u223z1 u224z1 u225z1 u226z1 u227z1 u228z1 u229z1 u230z1 u231z1 u232z1 u233z1 i nn T L N held p rg hni hi1 Ah ch hlt hltI tb1 toff tx HZ1 htb t ht4 t3 Q'z2 Kz2 az2 Kz3 az3 wcz1 u26z2 u27z2 u28z2 u29z2 u30z2 u31z2 u32z2 u33z2 u34z2 u35z2 u36z2 u37z2 u38z2 u39z2 u40z2 u41z2 u42z2 u43z2 u44z2 u45z2 u46z2 u47z2 u49z2 u50z2 u51z2 u52z2 u53z2 u54z2 u55z2 u56z2 u57z2 u58z2 u59z2 u60z2 u61z2 u62z2 u63z2 u64z2 u65z2 u66z2 u67z2 u68z2 u69z2 u70z2 u71z2 u72z2 u73z2 u74z2 u75z2 u76z2 u77z2 u78z2 u79z2 u80z2 u81z2 u82z2 u83z2 u84z2 u85z2 u86z2 u87z2 u88z2 u89z2 u90z2 u91z2 u92z2 u93z2 u94z2 u95z2 u96z2 u97z2 u98z2 u99z2 u100z2 u101z2 u102z2 u103z2 u104z2 u105z2 u106z2 u107z2 u108z2 u109z2 u110z2 u111z2 u112z2 u113z2 u114z2 u115z2 u116z2 u117z2 u118z2 u119z2 u120z2 u121z2 u122z2 u123z2 u124z2 u125z2 u126z2 u127z2 u128z2 u129z2 u130z2 u131z2 u132z2 u133z2 u134z2 u135z2 u136z2 u137z2 u138z2 u139z2 u140z2 u141z2 u142z2 u143z2 u144z2 u145z2 u146z2 u147z2 u148z2 u149z2 u150z2 u151z2 u152z2 u153z2 u154z2 u155z2 u156z2 u157z2 u158z2 u159z2 u160z2 u161z2 u162z2 u163z2 u164z2 u165z2 u166z2 u167z2 u168z2 u169z2 u170z2 u171z2 u172z2 u173z2 u174z2 u175z2 u176z2 u177z2 u178z2 u179z2 u180z2 u181z2 u182z2 u183z2 u184z2 u185z2 u186z2 u187z2 u188z2 u189z2 u190z2 u191z2 u192z2 u193z2 u194z2 u195z2 u196z2 u197z2 u198z2 u199z2 u200z2 u201z2 u202z2 u203z2 u204z2 u205z2 u206z2 u207z2 u208z2 u209z2 u210z2 u211z2 u212z2 u213z2 u214z2 u215z2 u216z2 u217z2 u218z2 u219z2 u220z2 u221z2 u222z2 u223z2 u224z2 u225z2 u226z2 u227z2 u228z2 u229z2 u230z2 u231z2 u232z2 u233z2 wc u12 u13 u14 u26 u27 u28 u29 u30 u31 u32 u33 u34 u35 u36 u37 u38 u39 u40 u41 u42 u43 u44 u45 u46 u47 u48 u49 u50 u51 u52 u53 u54 u55 u56 u57 u58 u59 u60 u61 u62 u63 u64 u65 u66 u67 u68 u69 u70 u71 u72 u73 u74 u75 u76 u77 u78 u79 u80 u81 u82 u83 u84 u85 u86 u87 u88 u89 u90 u91 u92 u93 u94 u95 u96 u97 u98 u99 u100 u101 u102 u103 u104 u105 u106 u107 u108 u109 u110 u111 u112 u113 u114 u115 u116 u117 u118 u119 u120 u121 u122 u123 u124 u125 u126 u127 u128 u129 u130 u131 u132 u133 u134 u135 u136 u137 u138 u139 u140 u141 u142 u143 u144 u145 u146 u147 u148 u149 u150 u151 u152 u153 u154 u155 u156 u157 u158 u159 u160 u161 u162 u163 u164 u165 u166 u167 u168 u169 u170 u171 u172 u173 u174 u175 u176 u177 u178 u179 u180 u181 u182 u183 u184 u185 u186 u187 u188 u189 u190 u191 u192 u193 u194 u195 u196 u197 u198 u199 u200 u201 u202 u203 u204 u205 u206 u207 u208 u209 u210 u211 u212 u213 u214 u215 u216 u217 u218 u219 u220 u221 u222 u223 u224 u225 u226 u227 u228 u229 u230 u231 u232 u233 nn' held' p' rg' hnn Ah' ch' HK4 HT4 HO4 hg4 hod HKL g st c x n ho
  obtain ⟨y, hy⟩ : ∃ y, rg' t = y := ⟨_, rfl⟩
  have hm0 : wc.cell? ⟨gm, t * 4, none⟩ = some (.pointer (some ⟨g, 0, none⟩)) := (A16_at HT4.out (by omega)).trans (by rw [tb_at0, ho]; rfl)
  go_upto_region 25 with (fail)
  have hm1 : wc.cell? ⟨gm, t * 4 + 2, none⟩ = some (.pointer (some ⟨y, 0, none⟩)) := (A16_at HT4.out (by omega)).trans (by rw [tb_at (by decide), ho, hy]; rfl)
  have hp0 : wc.cell? ⟨gp, 0, none⟩ = some (.pointer (some ⟨b, 0, none⟩)) := HK4.out.pm.cell 0
  have hp1 : wc.cell? ⟨gp, 1, none⟩ = some (.pointer (some ⟨rb, 0, none⟩)) := HK4.out.pm.cell 1
  have hgo : gOf (p' t) = some g := by rw [ho]; rfl
  have hgg := HK4.out.core.gb t g t3 hgo
  have hyy := HK4.out.rb2 t t3 (by rw [hgo]; simp)
  rw [hy] at hyy
  have hgml : gm < wc.drew.heap.size := HT4.out.lt
  have hgpl : gp < wc.drew.heap.size := HK4.out.pm.lt
  have hgmp : ¬ P2 lo hi g y gm := by unfold P2; omega
  have hgpp : ¬ P2 lo hi g y gp := by unfold P2; omega
  have hbb := (HK4.out.below (below_drewN (Below.refl _ wc) 1))
  rw [show wc.drewN 1 = wc.drew from rfl] at hbb
  obtain ⟨k1, k2, k3, k4, k5, d, st', x', n', bl', yy', T', L', held'', p'', S1, S2, hst1, hst2, hF1, hS2, hO⟩ := pop_both hbb (by omega) t3 ho
  rw [hy] at hst2 hF1 hS2
  obtain ⟨D, hD⟩ : ∃ D, ((st' : Int) == 3) = D := ⟨_, rfl⟩
  have HD := Lib.hid hD
  have HST1 := Lib.hid hst1
  have HS12 := Lib.hid hst2
  have HF1 := Lib.hid hF1
  have HS2 := Lib.hid hS2
  have HF2 := Lib.hid (fun w h => (hS2 w h).1)
  have HOO := Lib.hid hO
  replace hm0 : wc.drew.cell? ⟨gm, t * 4, none⟩ = some (.pointer (some ⟨g, 0, none⟩)) := hm0
  replace hm1 : wc.drew.cell? ⟨gm, t * 4 + 2, none⟩ = some (.pointer (some ⟨y, 0, none⟩)) := hm1
  replace hp0 : wc.drew.cell? ⟨gp, 0, none⟩ = some (.pointer (some ⟨b, 0, none⟩)) := hp0
  replace hp1 : wc.drew.cell? ⟨gp, 1, none⟩ = some (.pointer (some ⟨rb, 0, none⟩)) := hp1
  replace HT4 : Hid (Mem wc.drew gm TM (A16 (tb p' rg'))) := HT4
  replace HO4 : Hid (OwnQ wc.drew (gm + 1) _ _) := HO4
  replace HK4 := Lib.hid hbb
  clear hbb hO hst1 hst2 hF1 hS2 hgo hD
  refine Rgn.region_lists (by kernel_rfl) [some 114, some 115, some 116, some 117, some 118, some 119, some 120, some 121, some 122, some 123, some 124, some 125, some 126, some 127, some 128, some 129, some 130, some 131, some 132, some 133, some 134, some 135, some 136, some 137, some 138, some 139, some 140, some 141, some 142, some 143, some 144, some 145, some 146, some 147, some 148, some 149, some 150, some 151, some 152, some 153, some 154, some 155, some 156, some 157, some 158, some 159]
    (fun gh => [.int .i64 t, .pointer (some ⟨gm, t * 4, none⟩), .pointer (some ⟨gm, t * 4, none⟩), .pointer (some ⟨g, 0, none⟩), .pointer (some ⟨gp, 0, none⟩), .pointer (some ⟨b, 0, none⟩), (accV k1 k2 k3 k4 k5 d), .int .i64 t, .pointer (some ⟨gm, t * 4, none⟩), .pointer (some ⟨gm, t * 4 + 2, none⟩), .pointer (some ⟨y, 0, none⟩), .pointer (some ⟨gp, 1, none⟩), .pointer (some ⟨rb, 0, none⟩), (accV k1 k2 k3 k4 k5 d), .bool false, .bool false, .int .i64 t, .pointer (some ⟨gm, t * 4, none⟩), .pointer (some ⟨gm, t * 4, none⟩), .pointer (some ⟨g, 0, none⟩), .bool D, .int .i64 t, .pointer (some ⟨gm, t * 4, none⟩), .pointer (some ⟨gm, t * 4 + 2, none⟩), .pointer (some ⟨y, 0, none⟩), .pointer (some ⟨y, 0, none⟩), .pointer (some ⟨y, 1, none⟩), .int .i64 (st' : Int), .bool D, .bool false, .bool false, .bool false, .int .i64 t, .pointer (some ⟨gm, t * 4, none⟩), .pointer (some ⟨gm, t * 4, none⟩), .pointer (some ⟨g, 0, none⟩), .int .i64 bl', .int .i64 t, .pointer (some ⟨gm, t * 4, none⟩), .pointer (some ⟨gm, t * 4 + 2, none⟩), .pointer (some ⟨y, 0, none⟩), .pointer (some ⟨y, 0, none⟩), .pointer (some ⟨y, 4, none⟩), .int .i64 bl', .bool false, .bool false])
    (fun (_ : Unit) L w9 => tri (L 6) (L 13) wc.drew S1 S2 w9) () 46 235 (by kernel_rfl) (by kernel_rfl) (fun _ => rfl) (by kernel_rfl) (by kernel_rfl) rfl ?_ ?_
  · skip
    --@@Q 1
    intro i hi gh L a wq hS hLi hup hdn hold hv K hK
    have hi' : i = 0 ∨ i = 1 ∨ i = 2 ∨ i = 3 ∨ i = 4 ∨ i = 5 ∨ i = 6 ∨ i = 7 ∨ i = 8 ∨ i = 9 ∨ i = 10 ∨ i = 11 ∨ i = 12 ∨ i = 13 ∨ i = 14 ∨ i = 15 ∨ i = 16 ∨ i = 17 ∨ i = 18 ∨ i = 19 ∨ i = 20 ∨ i = 21 ∨ i = 22 ∨ i = 23 ∨ i = 24 ∨ i = 25 ∨ i = 26 ∨ i = 27 ∨ i = 28 ∨ i = 29 ∨ i = 30 ∨ i = 31 ∨ i = 32 ∨ i = 33 ∨ i = 34 ∨ i = 35 ∨ i = 36 ∨ i = 37 ∨ i = 38 ∨ i = 39 ∨ i = 40 ∨ i = 41 ∨ i = 42 ∨ i = 43 ∨ i = 44 ∨ i = 45 := by omega
    clear hi
    rcases hi' with rfl | rfl | rfl | rfl | rfl | rfl | rfl | rfl | rfl | rfl | rfl | rfl | rfl | rfl | rfl | rfl | rfl | rfl | rfl | rfl | rfl | rfl | rfl | rfl | rfl | rfl | rfl | rfl | rfl | rfl | rfl | rfl | rfl | rfl | rfl | rfl | rfl | rfl | rfl | rfl | rfl | rfl | rfl | rfl | rfl | rfl
    · have q11 : a.tmps[11]?.getD undef = .int .i64 t := (hold 11 (by kernel_rfl)).trans (by kernel_rfl)
      have hdx := HD.out
      have HS := Lib.hid hS
      clear hS hup hdn hold hv hLi
      refine Rgn.op_of rfl rfl ?_
      go_simp
      exact hK () _ (fun _ _ _ => rfl) HS.out
    · have q7 : a.tmps[7]?.getD undef = .pointer (some ⟨gm, 0, none⟩) := (hold 7 (by kernel_rfl)).trans (by kernel_rfl)
      have q114 : a.tmps[114]?.getD undef = .int .i64 t := hv 0 114 (by kernel_rfl) (by kernel_rfl)
      have hdx := HD.out
      have HS := Lib.hid hS
      clear hS hup hdn hold hv hLi
      refine Rgn.op_of rfl rfl ?_
      go_simp
      exact hK () _ (fun _ _ _ => rfl) HS.out
    · have q115 : a.tmps[115]?.getD undef = .pointer (some ⟨gm, t * 4, none⟩) := hv 1 115 (by kernel_rfl) (by kernel_rfl)
      have hdx := HD.out
      have HS := Lib.hid hS
      clear hS hup hdn hold hv hLi
      refine Rgn.op_of rfl rfl ?_
      go_simp
      exact hK () _ (fun _ _ _ => rfl) HS.out
    · have q116 : a.tmps[116]?.getD undef = .pointer (some ⟨gm, t * 4, none⟩) := hv 2 116 (by kernel_rfl) (by kernel_rfl)
      have hdx := HD.out
      have h0 : tri (L 6) (L 13) wc.drew S1 S2 wq := hS
      have hfr := tri_fr h0 HF1.out HF2.out
      have hcl : wq.cell? ⟨gm, t * 4, none⟩ = some (.pointer (some ⟨g, 0, none⟩)) := (World.cell?_of_block (hfr.block _ hgml hgmp)).trans hm0
      clear h0 hfr
      have HS := Lib.hid hS
      clear hS hup hdn hold hv hLi
      refine Rgn.op_of rfl rfl ?_
      go_simp
      exact hK () _ (fun _ _ _ => rfl) HS.out
    · have q5 : a.tmps[5]?.getD undef = .pointer (some ⟨gp, 0, none⟩) := (hold 5 (by kernel_rfl)).trans (by kernel_rfl)
      have hdx := HD.out
      have HS := Lib.hid hS
      clear hS hup hdn hold hv hLi
      refine Rgn.op_of rfl rfl ?_
      go_simp
      exact hK () _ (fun _ _ _ => rfl) HS.out
    · have q118 : a.tmps[118]?.getD undef = .pointer (some ⟨gp, 0, none⟩) := hv 4 118 (by kernel_rfl) (by kernel_rfl)
      have hdx := HD.out
      have h0 : tri (L 6) (L 13) wc.drew S1 S2 wq := hS
      have hfr := tri_fr h0 HF1.out HF2.out
      have hcl : wq.cell? ⟨gp, 0, none⟩ = some (.pointer (some ⟨b, 0, none⟩)) := (World.cell?_of_block (hfr.block _ hgpl hgpp)).trans hp0
      clear h0 hfr
      have HS := Lib.hid hS
      clear hS hup hdn hold hv hLi
      refine Rgn.op_of rfl rfl ?_
      go_simp
      exact hK () _ (fun _ _ _ => rfl) HS.out
    · have q117 : a.tmps[117]?.getD undef = .pointer (some ⟨g, 0, none⟩) := hv 3 117 (by kernel_rfl) (by kernel_rfl)
      have q119 : a.tmps[119]?.getD undef = .pointer (some ⟨b, 0, none⟩) := hv 5 119 (by kernel_rfl) (by kernel_rfl)
      have hdx := HD.out
      have z6 : L 6 = false := hLi
      have z13 : L 13 = false := hdn 13 rfl (by kernel_rfl)
      have h0 : tri (L 6) (L 13) wc.drew S1 S2 wq := hS
      rw [z6] at h0
      have hw : wq = wc.drew := h0
      have hst1 := HST1.out
      rw [← hw] at hst1
      clear hw h0
      have HS := Lib.hid hS
      clear hS hup hdn hold hv hLi
      refine Rgn.op_of rfl rfl ?_
      go_simp
      go_at_call 20
      (with_reducible refine (hst1).mono ?_)
      rintro e w5 ⟨rfl, hw5⟩
      refine hK () _ (fun _ _ _ => rfl) ?_
      show tri (Rgn.mark L 6 6) (Rgn.mark L 6 13) wc.drew S1 S2 _
      rw [Rgn.mark_self, Rgn.mark_ne (show 13 ≠ 6 by decide), z13]
      exact hw5
    · have q11 : a.tmps[11]?.getD undef = .int .i64 t := (hold 11 (by kernel_rfl)).trans (by kernel_rfl)
      have hdx := HD.out
      have HS := Lib.hid hS
      clear hS hup hdn hold hv hLi
      refine Rgn.op_of rfl rfl ?_
      go_simp
      exact hK () _ (fun _ _ _ => rfl) HS.out
    · have q7 : a.tmps[7]?.getD undef = .pointer (some ⟨gm, 0, none⟩) := (hold 7 (by kernel_rfl)).trans (by kernel_rfl)
      have q121 : a.tmps[121]?.getD undef = .int .i64 t := hv 7 121 (by kernel_rfl) (by kernel_rfl)
      have hdx := HD.out
      have HS := Lib.hid hS
      clear hS hup hdn hold hv hLi
      refine Rgn.op_of rfl rfl ?_
      go_simp
      exact hK () _ (fun _ _ _ => rfl) HS.out
    · have q122 : a.tmps[122]?.getD undef = .pointer (some ⟨gm, t * 4, none⟩) := hv 8 122 (by kernel_rfl) (by kernel_rfl)
      have hdx := HD.out
      have HS := Lib.hid hS
      clear hS hup hdn hold hv hLi
      refine Rgn.op_of rfl rfl ?_
      go_simp
      exact hK () _ (fun _ _ _ => rfl) HS.out
    · have q123 : a.tmps[123]?.getD undef = .pointer (some ⟨gm, t * 4 + 2, none⟩) := hv 9 123 (by kernel_rfl) (by kernel_rfl)
      have hdx := HD.out
      have h0 : tri (L 6) (L 13) wc.drew S1 S2 wq := hS
      have hfr := tri_fr h0 HF1.out HF2.out
      have hcl : wq.cell? ⟨gm, t * 4 + 2, none⟩ = some (.pointer (some ⟨y, 0, none⟩)) := (World.cell?_of_block (hfr.block _ hgml hgmp)).trans hm1
      clear h0 hfr
      have HS := Lib.hid hS
      clear hS hup hdn hold hv hLi
      refine Rgn.op_of rfl rfl ?_
      go_simp
      exact hK () _ (fun _ _ _ => rfl) HS.out
    · have q5 : a.tmps[5]?.getD undef = .pointer (some ⟨gp, 0, none⟩) := (hold 5 (by kernel_rfl)).trans (by kernel_rfl)
      have hdx := HD.out
      have HS := Lib.hid hS
      clear hS hup hdn hold hv hLi
      refine Rgn.op_of rfl rfl ?_
      go_simp
      exact hK () _ (fun _ _ _ => rfl) HS.out
    · have q125 : a.tmps[125]?.getD undef = .pointer (some ⟨gp, 1, none⟩) := hv 11 125 (by kernel_rfl) (by kernel_rfl)
      have hdx := HD.out
      have h0 : tri (L 6) (L 13) wc.drew S1 S2 wq := hS
      have hfr := tri_fr h0 HF1.out HF2.out
      have hcl : wq.cell? ⟨gp, 1, none⟩ = some (.pointer (some ⟨rb, 0, none⟩)) := (World.cell?_of_block (hfr.block _ hgpl hgpp)).trans hp1
      clear h0 hfr
      have HS := Lib.hid hS
      clear hS hup hdn hold hv hLi
      refine Rgn.op_of rfl rfl ?_
      go_simp
      exact hK () _ (fun _ _ _ => rfl) HS.out
    · have q124 : a.tmps[124]?.getD undef = .pointer (some ⟨y, 0, none⟩) := hv 10 124 (by kernel_rfl) (by kernel_rfl)
      have q126 : a.tmps[126]?.getD undef = .pointer (some ⟨rb, 0, none⟩) := hv 12 126 (by kernel_rfl) (by kernel_rfl)
      have hdx := HD.out
      have z6 : L 6 = true := hup 6 (by kernel_rfl)
      have z13 : L 13 = false := hLi
      have h0 : tri (L 6) (L 13) wc.drew S1 S2 wq := hS
      rw [z6, z13] at h0
      have hst2 := HS12.out wq h0
      have HS := Lib.hid hS
      clear hS hup hdn hold hv hLi
      refine Rgn.op_of rfl rfl ?_
      go_simp
      go_at_call 21
      (with_reducible refine (hst2).mono ?_)
      rintro e w5 ⟨rfl, hw5⟩
      refine hK () _ (fun _ _ _ => rfl) ?_
      show tri (Rgn.mark L 13 6) (Rgn.mark L 13 13) wc.drew S1 S2 _
      rw [Rgn.mark_self, Rgn.mark_ne (show 6 ≠ 13 by decide), z6]
      exact hw5
    · have q120 : a.tmps[120]?.getD undef = (accV k1 k2 k3 k4 k5 d) := hv 6 120 (by kernel_rfl) (by kernel_rfl)
      have q127 : a.tmps[127]?.getD undef = (accV k1 k2 k3 k4 k5 d) := hv 13 127 (by kernel_rfl) (by kernel_rfl)
      have hdx := HD.out
      have HS := Lib.hid hS
      clear hS hup hdn hold hv hLi
      refine Rgn.op_of rfl rfl ?_
      go_simp
      exact hK () _ (fun _ _ _ => rfl) HS.out
    · have q128 : a.tmps[128]?.getD undef = .bool false := hv 14 128 (by kernel_rfl) (by kernel_rfl)
      have hdx := HD.out
      have HS := Lib.hid hS
      clear hS hup hdn hold hv hLi
      refine Rgn.op_of rfl rfl ?_
      go_simp
      exact hK () _ (fun _ _ _ => rfl) HS.out
    · have q11 : a.tmps[11]?.getD undef = .int .i64 t := (hold 11 (by kernel_rfl)).trans (by kernel_rfl)
      have hgd : a.tmps[129]?.getD undef = .bool false := hv 15 129 (by kernel_rfl) (by kernel_rfl)
      have hdx := HD.out
      have HS := Lib.hid hS
      clear hS hup hdn hold hv hLi
      refine Rgn.op_of_guard (j := 15) (d := 129) (b := false) rfl rfl (by kernel_rfl) hgd ?_
      clear hgd
      go_simp
      exact hK () _ (fun _ _ _ => rfl) HS.out
    · have q7 : a.tmps[7]?.getD undef = .pointer (some ⟨gm, 0, none⟩) := (hold 7 (by kernel_rfl)).trans (by kernel_rfl)
      have q130 : a.tmps[130]?.getD undef = .int .i64 t := hv 16 130 (by kernel_rfl) (by kernel_rfl)
      have hgd : a.tmps[129]?.getD undef = .bool false := hv 15 129 (by kernel_rfl) (by kernel_rfl)
      have hdx := HD.out
      have HS := Lib.hid hS
      clear hS hup hdn hold hv hLi
      refine Rgn.op_of_guard (j := 15) (d := 129) (b := false) rfl rfl (by kernel_rfl) hgd ?_
      clear hgd
      go_simp
      exact hK () _ (fun _ _ _ => rfl) HS.out
    · have q131 : a.tmps[131]?.getD undef = .pointer (some ⟨gm, t * 4, none⟩) := hv 17 131 (by kernel_rfl) (by kernel_rfl)
      have hgd : a.tmps[129]?.getD undef = .bool false := hv 15 129 (by kernel_rfl) (by kernel_rfl)
      have hdx := HD.out
      have HS := Lib.hid hS
      clear hS hup hdn hold hv hLi
      refine Rgn.op_of_guard (j := 15) (d := 129) (b := false) rfl rfl (by kernel_rfl) hgd ?_
      clear hgd
      go_simp
      exact hK () _ (fun _ _ _ => rfl) HS.out
    · have q132 : a.tmps[132]?.getD undef = .pointer (some ⟨gm, t * 4, none⟩) := hv 18 132 (by kernel_rfl) (by kernel_rfl)
      have hgd : a.tmps[129]?.getD undef = .bool false := hv 15 129 (by kernel_rfl) (by kernel_rfl)
      have hdx := HD.out
      have h0 : tri (L 6) (L 13) wc.drew S1 S2 wq := hS
      have hfr := tri_fr h0 HF1.out HF2.out
      have hcl : wq.cell? ⟨gm, t * 4, none⟩ = some (.pointer (some ⟨g, 0, none⟩)) := (World.cell?_of_block (hfr.block _ hgml hgmp)).trans hm0
      clear h0 hfr
      have HS := Lib.hid hS
      clear hS hup hdn hold hv hLi
      refine Rgn.op_of_guard (j := 15) (d := 129) (b := false) rfl rfl (by kernel_rfl) hgd ?_
      clear hgd
      go_simp
      exact hK () _ (fun _ _ _ => rfl) HS.out
    · have q133 : a.tmps[133]?.getD undef = .pointer (some ⟨g, 0, none⟩) := hv 19 133 (by kernel_rfl) (by kernel_rfl)
      have hgd : a.tmps[129]?.getD undef = .bool false := hv 15 129 (by kernel_rfl) (by kernel_rfl)
      have hdx := HD.out
      have z6 : L 6 = true := hup 6 (by kernel_rfl)
      have z13 : L 13 = true := hup 13 (by kernel_rfl)
      have h0 : tri (L 6) (L 13) wc.drew S1 S2 wq := hS
      rw [z6, z13] at h0
      have hdn2 := p_done g _ _ _ _ _ wq (HS2.out wq h0).2.1
      rw [HD.out] at hdn2
      have HS := Lib.hid hS
      clear hS hup hdn hold hv hLi
      refine Rgn.op_of_guard (j := 15) (d := 129) (b := false) rfl rfl (by kernel_rfl) hgd ?_
      clear hgd
      go_simp
      go_at_call 22
      (with_reducible refine (hdn2).mono ?_)
      rintro e w5 ⟨rfl, hw5⟩
      rw [← hw5]
      exact hK () _ (fun _ _ _ => rfl) HS.out
    · have q11 : a.tmps[11]?.getD undef = .int .i64 t := (hold 11 (by kernel_rfl)).trans (by kernel_rfl)
      have hgd : a.tmps[129]?.getD undef = .bool false := hv 15 129 (by kernel_rfl) (by kernel_rfl)
      have hdx := HD.out
      have HS := Lib.hid hS
      clear hS hup hdn hold hv hLi
      refine Rgn.op_of_guard (j := 15) (d := 129) (b := false) rfl rfl (by kernel_rfl) hgd ?_
      clear hgd
      go_simp
      exact hK () _ (fun _ _ _ => rfl) HS.out
    · have q7 : a.tmps[7]?.getD undef = .pointer (some ⟨gm, 0, none⟩) := (hold 7 (by kernel_rfl)).trans (by kernel_rfl)
      have q135 : a.tmps[135]?.getD undef = .int .i64 t := hv 21 135 (by kernel_rfl) (by kernel_rfl)
      have hgd : a.tmps[129]?.getD undef = .bool false := hv 15 129 (by kernel_rfl) (by kernel_rfl)
      have hdx := HD.out
      have HS := Lib.hid hS
      clear hS hup hdn hold hv hLi
      refine Rgn.op_of_guard (j := 15) (d := 129) (b := false) rfl rfl (by kernel_rfl) hgd ?_
      clear hgd
      go_simp
      exact hK () _ (fun _ _ _ => rfl) HS.out
    · have q136 : a.tmps[136]?.getD undef = .pointer (some ⟨gm, t * 4, none⟩) := hv 22 136 (by kernel_rfl) (by kernel_rfl)
      have hgd : a.tmps[129]?.getD undef = .bool false := hv 15 129 (by kernel_rfl) (by kernel_rfl)
      have hdx := HD.out
      have HS := Lib.hid hS
      clear hS hup hdn hold hv hLi
      refine Rgn.op_of_guard (j := 15) (d := 129) (b := false) rfl rfl (by kernel_rfl) hgd ?_
      clear hgd
      go_simp
      exact hK () _ (fun _ _ _ => rfl) HS.out
    · have q137 : a.tmps[137]?.getD undef = .pointer (some ⟨gm, t * 4 + 2, none⟩) := hv 23 137 (by kernel_rfl) (by kernel_rfl)
      have hgd : a.tmps[129]?.getD undef = .bool false := hv 15 129 (by kernel_rfl) (by kernel_rfl)
      have hdx := HD.out
      have h0 : tri (L 6) (L 13) wc.drew S1 S2 wq := hS
      have hfr := tri_fr h0 HF1.out HF2.out
      have hcl : wq.cell? ⟨gm, t * 4 + 2, none⟩ = some (.pointer (some ⟨y, 0, none⟩)) := (World.cell?_of_block (hfr.block _ hgml hgmp)).trans hm1
      clear h0 hfr
      have HS := Lib.hid hS
      clear hS hup hdn hold hv hLi
      refine Rgn.op_of_guard (j := 15) (d := 129) (b := false) rfl rfl (by kernel_rfl) hgd ?_
      clear hgd
      go_simp
      exact hK () _ (fun _ _ _ => rfl) HS.out
    · have q138 : a.tmps[138]?.getD undef = .pointer (some ⟨y, 0, none⟩) := hv 24 138 (by kernel_rfl) (by kernel_rfl)
      have hgd : a.tmps[129]?.getD undef = .bool false := hv 15 129 (by kernel_rfl) (by kernel_rfl)
      have hdx := HD.out
      have HS := Lib.hid hS
      clear hS hup hdn hold hv hLi
      refine Rgn.op_of_guard (j := 15) (d := 129) (b := false) rfl rfl (by kernel_rfl) hgd ?_
      clear hgd
      go_simp
      exact hK () _ (fun _ _ _ => rfl) HS.out
    · have q139 : a.tmps[139]?.getD undef = .pointer (some ⟨y, 0, none⟩) := hv 25 139 (by kernel_rfl) (by kernel_rfl)
      have hgd : a.tmps[129]?.getD undef = .bool false := hv 15 129 (by kernel_rfl) (by kernel_rfl)
      have hdx := HD.out
      have HS := Lib.hid hS
      clear hS hup hdn hold hv hLi
      refine Rgn.op_of_guard (j := 15) (d := 129) (b := false) rfl rfl (by kernel_rfl) hgd ?_
      clear hgd
      go_simp
      exact hK () _ (fun _ _ _ => rfl) HS.out
    · have q140 : a.tmps[140]?.getD undef = .pointer (some ⟨y, 1, none⟩) := hv 26 140 (by kernel_rfl) (by kernel_rfl)
      have hgd : a.tmps[129]?.getD undef = .bool false := hv 15 129 (by kernel_rfl) (by kernel_rfl)
      have hdx := HD.out
      have z6 : L 6 = true := hup 6 (by kernel_rfl)
      have z13 : L 13 = true := hup 13 (by kernel_rfl)
      have h0 : tri (L 6) (L 13) wc.drew S1 S2 wq := hS
      rw [z6, z13] at h0
      have hcl : wq.cell? ⟨y, 1, none⟩ = some (.int .i64 (st' : Int)) := (HS2.out wq h0).2.2.1.cell 1
      clear h0
      have HS := Lib.hid hS
      clear hS hup hdn hold hv hLi
      refine Rgn.op_of_guard (j := 15) (d := 129) (b := false) rfl rfl (by kernel_rfl) hgd ?_
      clear hgd
      go_simp
      exact hK () _ (fun _ _ _ => rfl) HS.out
    · have q141 : a.tmps[141]?.getD undef = .int .i64 (st' : Int) := hv 27 141 (by kernel_rfl) (by kernel_rfl)
      have hgd : a.tmps[129]?.getD undef = .bool false := hv 15 129 (by kernel_rfl) (by kernel_rfl)
      have hdx := HD.out
      have HS := Lib.hid hS
      clear hS hup hdn hold hv hLi
      refine Rgn.op_of_guard (j := 15) (d := 129) (b := false) rfl rfl (by kernel_rfl) hgd ?_
      clear hgd
      go_simp
      exact hK () _ (fun _ _ _ => rfl) HS.out
    · have q134 : a.tmps[134]?.getD undef = .bool D := hv 20 134 (by kernel_rfl) (by kernel_rfl)
      have q142 : a.tmps[142]?.getD undef = .bool D := hv 28 142 (by kernel_rfl) (by kernel_rfl)
      have hgd : a.tmps[129]?.getD undef = .bool false := hv 15 129 (by kernel_rfl) (by kernel_rfl)
      have hdx := HD.out
      have HS := Lib.hid hS
      clear hS hup hdn hold hv hLi
      refine Rgn.op_of_guard (j := 15) (d := 129) (b := false) rfl rfl (by kernel_rfl) hgd ?_
      clear hgd
      go_simp
      exact hK () _ (fun _ _ _ => rfl) HS.out
    · have q129 : a.tmps[129]?.getD undef = .bool false := hv 15 129 (by kernel_rfl) (by kernel_rfl)
      have q143 : a.tmps[143]?.getD undef = .bool false := hv 29 143 (by kernel_rfl) (by kernel_rfl)
      have hdx := HD.out
      have HS := Lib.hid hS
      clear hS hup hdn hold hv hLi
      refine Rgn.op_of rfl rfl ?_
      go_simp
      exact hK () _ (fun _ _ _ => rfl) HS.out
    · have q144 : a.tmps[144]?.getD undef = .bool false := hv 30 144 (by kernel_rfl) (by kernel_rfl)
      have hdx := HD.out
      have HS := Lib.hid hS
      clear hS hup hdn hold hv hLi
      refine Rgn.op_of rfl rfl ?_
      go_simp
      exact hK () _ (fun _ _ _ => rfl) HS.out
    · have q11 : a.tmps[11]?.getD undef = .int .i64 t := (hold 11 (by kernel_rfl)).trans (by kernel_rfl)
      have hgd : a.tmps[145]?.getD undef = .bool false := hv 31 145 (by kernel_rfl) (by kernel_rfl)
      have hdx := HD.out
      have HS := Lib.hid hS
      clear hS hup hdn hold hv hLi
      refine Rgn.op_of_guard (j := 31) (d := 145) (b := false) rfl rfl (by kernel_rfl) hgd ?_
      clear hgd
      go_simp
      exact hK () _ (fun _ _ _ => rfl) HS.out
    · have q7 : a.tmps[7]?.getD undef = .pointer (some ⟨gm, 0, none⟩) := (hold 7 (by kernel_rfl)).trans (by kernel_rfl)
      have q146 : a.tmps[146]?.getD undef = .int .i64 t := hv 32 146 (by kernel_rfl) (by kernel_rfl)
      have hgd : a.tmps[145]?.getD undef = .bool false := hv 31 145 (by kernel_rfl) (by kernel_rfl)
      have hdx := HD.out
      have HS := Lib.hid hS
      clear hS hup hdn hold hv hLi
      refine Rgn.op_of_guard (j := 31) (d := 145) (b := false) rfl rfl (by kernel_rfl) hgd ?_
      clear hgd
      go_simp
      exact hK () _ (fun _ _ _ => rfl) HS.out
    · have q147 : a.tmps[147]?.getD undef = .pointer (some ⟨gm, t * 4, none⟩) := hv 33 147 (by kernel_rfl) (by kernel_rfl)
      have hgd : a.tmps[145]?.getD undef = .bool false := hv 31 145 (by kernel_rfl) (by kernel_rfl)
      have hdx := HD.out
      have HS := Lib.hid hS
      clear hS hup hdn hold hv hLi
      refine Rgn.op_of_guard (j := 31) (d := 145) (b := false) rfl rfl (by kernel_rfl) hgd ?_
      clear hgd
      go_simp
      exact hK () _ (fun _ _ _ => rfl) HS.out
    · have q148 : a.tmps[148]?.getD undef = .pointer (some ⟨gm, t * 4, none⟩) := hv 34 148 (by kernel_rfl) (by kernel_rfl)
      have hgd : a.tmps[145]?.getD undef = .bool false := hv 31 145 (by kernel_rfl) (by kernel_rfl)
      have hdx := HD.out
      have h0 : tri (L 6) (L 13) wc.drew S1 S2 wq := hS
      have hfr := tri_fr h0 HF1.out HF2.out
      have hcl : wq.cell? ⟨gm, t * 4, none⟩ = some (.pointer (some ⟨g, 0, none⟩)) := (World.cell?_of_block (hfr.block _ hgml hgmp)).trans hm0
      clear h0 hfr
      have HS := Lib.hid hS
      clear hS hup hdn hold hv hLi
      refine Rgn.op_of_guard (j := 31) (d := 145) (b := false) rfl rfl (by kernel_rfl) hgd ?_
      clear hgd
      go_simp
      exact hK () _ (fun _ _ _ => rfl) HS.out
    · have q149 : a.tmps[149]?.getD undef = .pointer (some ⟨g, 0, none⟩) := hv 35 149 (by kernel_rfl) (by kernel_rfl)
      have hgd : a.tmps[145]?.getD undef = .bool false := hv 31 145 (by kernel_rfl) (by kernel_rfl)
      have hdx := HD.out
      have z6 : L 6 = true := hup 6 (by kernel_rfl)
      have z13 : L 13 = true := hup 13 (by kernel_rfl)
      have h0 : tri (L 6) (L 13) wc.drew S1 S2 wq := hS
      rw [z6, z13] at h0
      have hbk := p_block g _ _ _ _ _ wq (HS2.out wq h0).2.1
      have HS := Lib.hid hS
      clear hS hup hdn hold hv hLi
      refine Rgn.op_of_guard (j := 31) (d := 145) (b := false) rfl rfl (by kernel_rfl) hgd ?_
      clear hgd
      go_simp
      go_at_call 23
      (with_reducible refine (hbk).mono ?_)
      rintro e w5 ⟨rfl, hw5⟩
      rw [← hw5]
      exact hK () _ (fun _ _ _ => rfl) HS.out
    · have q11 : a.tmps[11]?.getD undef = .int .i64 t := (hold 11 (by kernel_rfl)).trans (by kernel_rfl)
      have hgd : a.tmps[145]?.getD undef = .bool false := hv 31 145 (by kernel_rfl) (by kernel_rfl)
      have hdx := HD.out
      have HS := Lib.hid hS
      clear hS hup hdn hold hv hLi
      refine Rgn.op_of_guard (j := 31) (d := 145) (b := false) rfl rfl (by kernel_rfl) hgd ?_
      clear hgd
      go_simp
      exact hK () _ (fun _ _ _ => rfl) HS.out
    · have q7 : a.tmps[7]?.getD undef = .pointer (some ⟨gm, 0, none⟩) := (hold 7 (by kernel_rfl)).trans (by kernel_rfl)
      have q151 : a.tmps[151]?.getD undef = .int .i64 t := hv 37 151 (by kernel_rfl) (by kernel_rfl)
      have hgd : a.tmps[145]?.getD undef = .bool false := hv 31 145 (by kernel_rfl) (by kernel_rfl)
      have hdx := HD.out
      have HS := Lib.hid hS
      clear hS hup hdn hold hv hLi
      refine Rgn.op_of_guard (j := 31) (d := 145) (b := false) rfl rfl (by kernel_rfl) hgd ?_
      clear hgd
      go_simp
      exact hK () _ (fun _ _ _ => rfl) HS.out
    · have q152 : a.tmps[152]?.getD undef = .pointer (some ⟨gm, t * 4, none⟩) := hv 38 152 (by kernel_rfl) (by kernel_rfl)
      have hgd : a.tmps[145]?.getD undef = .bool false := hv 31 145 (by kernel_rfl) (by kernel_rfl)
      have hdx := HD.out
      have HS := Lib.hid hS
      clear hS hup hdn hold hv hLi
      refine Rgn.op_of_guard (j := 31) (d := 145) (b := false) rfl rfl (by kernel_rfl) hgd ?_
      clear hgd
      go_simp
      exact hK () _ (fun _ _ _ => rfl) HS.out
    · have q153 : a.tmps[153]?.getD undef = .pointer (some ⟨gm, t * 4 + 2, none⟩) := hv 39 153 (by kernel_rfl) (by kernel_rfl)
      have hgd : a.tmps[145]?.getD undef = .bool false := hv 31 145 (by kernel_rfl) (by kernel_rfl)
      have hdx := HD.out
      have h0 : tri (L 6) (L 13) wc.drew S1 S2 wq := hS
      have hfr := tri_fr h0 HF1.out HF2.out
      have hcl : wq.cell? ⟨gm, t * 4 + 2, none⟩ = some (.pointer (some ⟨y, 0, none⟩)) := (World.cell?_of_block (hfr.block _ hgml hgmp)).trans hm1
      clear h0 hfr
      have HS := Lib.hid hS
      clear hS hup hdn hold hv hLi
      refine Rgn.op_of_guard (j := 31) (d := 145) (b := false) rfl rfl (by kernel_rfl) hgd ?_
      clear hgd
      go_simp
      exact hK () _ (fun _ _ _ => rfl) HS.out
    · have q154 : a.tmps[154]?.getD undef = .pointer (some ⟨y, 0, none⟩) := hv 40 154 (by kernel_rfl) (by kernel_rfl)
      have hgd : a.tmps[145]?.getD undef = .bool false := hv 31 145 (by kernel_rfl) (by kernel_rfl)
      have hdx := HD.out
      have HS := Lib.hid hS
      clear hS hup hdn hold hv hLi
      refine Rgn.op_of_guard (j := 31) (d := 145) (b := false) rfl rfl (by kernel_rfl) hgd ?_
      clear hgd
      go_simp
      exact hK () _ (fun _ _ _ => rfl) HS.out
    · have q155 : a.tmps[155]?.getD undef = .pointer (some ⟨y, 0, none⟩) := hv 41 155 (by kernel_rfl) (by kernel_rfl)
      have hgd : a.tmps[145]?.getD undef = .bool false := hv 31 145 (by kernel_rfl) (by kernel_rfl)
      have hdx := HD.out
      have HS := Lib.hid hS
      clear hS hup hdn hold hv hLi
      refine Rgn.op_of_guard (j := 31) (d := 145) (b := false) rfl rfl (by kernel_rfl) hgd ?_
      clear hgd
      go_simp
      exact hK () _ (fun _ _ _ => rfl) HS.out
    · have q156 : a.tmps[156]?.getD undef = .pointer (some ⟨y, 4, none⟩) := hv 42 156 (by kernel_rfl) (by kernel_rfl)
      have hgd : a.tmps[145]?.getD undef = .bool false := hv 31 145 (by kernel_rfl) (by kernel_rfl)
      have hdx := HD.out
      have z6 : L 6 = true := hup 6 (by kernel_rfl)
      have z13 : L 13 = true := hup 13 (by kernel_rfl)
      have h0 : tri (L 6) (L 13) wc.drew S1 S2 wq := hS
      rw [z6, z13] at h0
      have hcl : wq.cell? ⟨y, 4, none⟩ = some (.int .i64 bl') := (HS2.out wq h0).2.2.1.cell 4
      clear h0
      have HS := Lib.hid hS
      clear hS hup hdn hold hv hLi
      refine Rgn.op_of_guard (j := 31) (d := 145) (b := false) rfl rfl (by kernel_rfl) hgd ?_
      clear hgd
      go_simp
      exact hK () _ (fun _ _ _ => rfl) HS.out
    · have q150 : a.tmps[150]?.getD undef = .int .i64 bl' := hv 36 150 (by kernel_rfl) (by kernel_rfl)
      have q157 : a.tmps[157]?.getD undef = .int .i64 bl' := hv 43 157 (by kernel_rfl) (by kernel_rfl)
      have hgd : a.tmps[145]?.getD undef = .bool false := hv 31 145 (by kernel_rfl) (by kernel_rfl)
      have hdx := HD.out
      have HS := Lib.hid hS
      clear hS hup hdn hold hv hLi
      refine Rgn.op_of_guard (j := 31) (d := 145) (b := false) rfl rfl (by kernel_rfl) hgd ?_
      clear hgd
      go_simp
      exact hK () _ (fun _ _ _ => rfl) HS.out
    · have q145 : a.tmps[145]?.getD undef = .bool false := hv 31 145 (by kernel_rfl) (by kernel_rfl)
      have q158 : a.tmps[158]?.getD undef = .bool false := hv 44 158 (by kernel_rfl) (by kernel_rfl)
      have hdx := HD.out
      have HS := Lib.hid hS
      clear hS hup hdn hold hv hLi
      refine Rgn.op_of rfl rfl ?_
      go_simp
      exact hK () _ (fun _ _ _ => rfl) HS.out
    --@@F 1
  · skip
    --@@Q 2
    intro gh L wq hall hS
    have h0 : tri (L 6) (L 13) wc.drew S1 S2 wq := hS
    rw [hall 6 rfl, hall 13 rfl] at h0
    obtain ⟨hF, hM, hM2, hKB⟩ := HS2.out wq h0
    clear h0 hS hall
    simp only [Rgn.putAll, Act.put]
    go_simp
    go_at_K
    have hF9 := hF
    have HT5 := Lib.hid (mem_fr HT4.out hF hgmp)
    have HO5 := Lib.hid (HO4.out.fr hF (fun x hx hx2 => by
      rcases hx2 with hx2 | hx2 | hx2
      · have := hx.1; have := HK4.out.od; omega
      · subst hx2; exact mbox_pq (HK4.out.core.en t t3) (by rw [ho]; rfl) hx
      · subst hx2; rw [← hy] at hx; exact box_pq (HK4.out.rx t t3) (by rw [ho]; simp [gOf]) hx))
    have HK5 := Lib.hid hKB
    have hcm : wq.cell? ⟨gm, t * 4 + 2, none⟩ = some (.pointer (some ⟨y, 0, none⟩)) := (World.cell?_of_block (hF.block gm hgml hgmp)).trans hm1
    have hcy : wq.cell? ⟨y, 1, none⟩ = some (.int .i64 (st' : Int)) := hM2.cell 1
    have hcb : wq.cell? ⟨y, 4, none⟩ = some (.int .i64 bl') := hM2.cell 4
    have hgmf := HT5.out.frozen
    have hO := HOO.out
    clear HOO
    rcases hO with ⟨h1, h2, rfl, rfl, rfl, rfl, _⟩ | ⟨h1, h2, _, rfl, rfl, rfl, rfl, _⟩ | ⟨h1, l, blk, _, h2, rfl, rfl, rfl, rfl, _⟩
    · have hd3 : ((st' : Int) == 3) = false := by simp; omega
      have HKX := HK5
      have HTX : Hid (Mem wq gm TM (A16 (tb (up p' t (.pop g st' c x' n')) rg'))) := Lib.hid (by rw [A16_congr fun i _ => (tb_go ho i).symm]; exact HT5.out)
      have HOX := HO5
      clear hF hF9 hM hM2 hKB HK4 HT4 HO4 HF1 HF2 HS2 HS12 HST1 hm0 hm1 hp0 hp1
      have hq0 := (HKX.out).pm.cell 0
      have hq1 := (HKX.out).pm.cell 1
      simp at hq0 hq1
      have hsm := same_both HKX.out
      go_wp2_with (go_at_call 27; (with_reducible refine hsm.mono ?_); rintro e w7 ⟨rfl, hKY, hSY⟩)
      have HKY := Lib.hid hKY
      have HTY := Lib.hid (Mem.of_eq HTX.out (hSY.block gm HTX.out.lt (.inr (by have := HKX.out.od; omega))))
      have HOY := Lib.hid (HOX.out.fr (Fr.of_stay (P := PI lo hi) hSY (fun x a c => ⟨a, c⟩)) (fun x hx hx2 => by have := hx.1; have := HKX.out.od; unfold PI at hx2; omega))
      clear hsm hKY hSY HKX HTX HOX hq0 hq1
      go_roundw
      case rel => exact ⟨i + 1, nn', _, _, _, _, _, _, by go_num, rfl, hnn, by omega, ⟨_, _, rfl⟩, HKY.out, HTY.out, HOY.out⟩
      case measure => simp [intOf]; omega
    · subst h1
      subst h2
      obtain ⟨vc0, hvc0⟩ : ∃ v, wq.cell? ⟨gm, t * 4, none⟩ = some v := ⟨_, A16_at HT5.out (by omega)⟩
      have hvz0 : wq.frozen? ⟨gm, t * 4, none⟩ = false := HT5.out.frozen (t * 4)
      obtain ⟨vc1, hvc1⟩ : ∃ v, wq.cell? ⟨gm, t * 4 + 1, none⟩ = some v := ⟨_, A16_at HT5.out (by omega)⟩
      have hvz1 : wq.frozen? ⟨gm, t * 4 + 1, none⟩ = false := HT5.out.frozen (t * 4 + 1)
      have hvz2 : wq.frozen? ⟨gm, t * 4 + 2, none⟩ = false := HT5.out.frozen (t * 4 + 2)
      obtain ⟨vc3, hvc3⟩ : ∃ v, wq.cell? ⟨gm, t * 4 + 3, none⟩ = some v := ⟨_, A16_at HT5.out (by omega)⟩
      have hvz3 : wq.frozen? ⟨gm, t * 4 + 3, none⟩ = false := HT5.out.frozen (t * 4 + 3)
      obtain ⟨W9, hW9, hK9, hT9, hO9⟩ := clear_tab HK5.out HT5.out HO5.out t3
      have HKX := Lib.hid hK9
      have HTX := Lib.hid hT9
      have HOX := Lib.hid hO9
      have hd3 : (((3 : Nat) : Int) == 3) = true := by decide
      clear hF hF9 hM hM2 hKB HK4 HT4 HO4 HF1 HF2 HS2 HS12 HST1 hm0 hm1 hp0 hp1
      clear hK9 hT9 hO9
      have hq0 := (HKX.out).pm.cell 0
      have hq1 := (HKX.out).pm.cell 1
      simp at hq0 hq1
      have hsm := same_both HKX.out
      go_wp2_with (go_at_call 27; (with_reducible refine hsm.mono ?_); rintro e w7 ⟨rfl, hKY, hSY⟩)
      have HKY := Lib.hid hKY
      have HTY := Lib.hid (Mem.of_eq HTX.out (hSY.block gm HTX.out.lt (.inr (by have := HKX.out.od; omega))))
      have HOY := Lib.hid (HOX.out.fr (Fr.of_stay (P := PI lo hi) hSY (fun x a c => ⟨a, c⟩)) (fun x hx hx2 => by have := hx.1; have := HKX.out.od; unfold PI at hx2; omega))
      clear hsm hKY hSY HKX HTX HOX hq0 hq1
      go_roundw
      case rel => exact ⟨i + 1, nn', _, _, _, _, _, _, by go_num, rfl, hnn, by omega, ⟨_, _, rfl⟩, HKY.out, HTY.out, HOY.out⟩
      case measure => simp [intOf]; omega
    · subst h1
      subst h2
      have hd3 : (((3 : Nat) : Int) == 3) = true := by decide
      have hbp : (0 : Int) ≤ (blk : Int) := by omega
      obtain ⟨A2, c2', w8, hrun, ho8, hF8⟩ := push_q (w := wq) (B := gm + 1) (by have := HK5.out.od; omega) HO5.out (by have := HKL; rw [List.length_map]; omega) blk
      rw [List.length_map] at hrun ho8
      have HT8 := Lib.hid (mem_fr HT5.out hF8 (fun hx => by have := hx.1; omega))
      have HK8 := Lib.hid (HK5.out.row hF8)
      have ho8 : OwnQ w8 (gm + 1) (.slice A2 (held'.length + 1) c2') ((held' ++ [blk]).map fun b : Nat => (b : Int)) := by rw [List.map_append]; exact ho8
      obtain ⟨vc0, hvc0⟩ : ∃ v, w8.cell? ⟨gm, t * 4, none⟩ = some v := ⟨_, A16_at HT8.out (by omega)⟩
      have hvz0 : w8.frozen? ⟨gm, t * 4, none⟩ = false := HT8.out.frozen (t * 4)
      obtain ⟨vc1, hvc1⟩ : ∃ v, w8.cell? ⟨gm, t * 4 + 1, none⟩ = some v := ⟨_, A16_at HT8.out (by omega)⟩
      have hvz1 : w8.frozen? ⟨gm, t * 4 + 1, none⟩ = false := HT8.out.frozen (t * 4 + 1)
      obtain ⟨vc2, hvc2⟩ : ∃ v, w8.cell? ⟨gm, t * 4 + 2, none⟩ = some v := ⟨_, A16_at HT8.out (by omega)⟩
      have hvz2 : w8.frozen? ⟨gm, t * 4 + 2, none⟩ = false := HT8.out.frozen (t * 4 + 2)
      obtain ⟨vc3, hvc3⟩ : ∃ v, w8.cell? ⟨gm, t * 4 + 3, none⟩ = some v := ⟨_, A16_at HT8.out (by omega)⟩
      have hvz3 : w8.frozen? ⟨gm, t * 4 + 3, none⟩ = false := HT8.out.frozen (t * 4 + 3)
      obtain ⟨W9, hW9, hK9, hT9, hO9⟩ := clear_tab HK8.out HT8.out ho8 t3
      have HKX := Lib.hid hK9
      have HTX := Lib.hid hT9
      have HOX := Lib.hid hO9
      have hcm8 := HT8.out.frozen
      clear hF hF9 hM hM2 hKB HK4 HT4 HO4 HF1 HF2 HS2 HS12 HST1 hm0 hm1 hp0 hp1
      clear hK9 hT9 hO9 ho8 hF8
      have hq0 := (HKX.out).pm.cell 0
      have hq1 := (HKX.out).pm.cell 1
      simp at hq0 hq1
      have hsm := same_both HKX.out
      go_wp2_with (first | (go_at_call 27; (with_reducible refine hsm.mono ?_); rintro e w7 ⟨rfl, hKY, hSY⟩) | (at_builtin; refine wpList_append_run rfl _ _ _ rfl hrun (by rfl) (by rfl) ?_))
      have HKY := Lib.hid hKY
      have HTY := Lib.hid (Mem.of_eq HTX.out (hSY.block gm HTX.out.lt (.inr (by have := HKX.out.od; omega))))
      have HOY := Lib.hid (HOX.out.fr (Fr.of_stay (P := PI lo hi) hSY (fun x a c => ⟨a, c⟩)) (fun x hx hx2 => by have := hx.1; have := HKX.out.od; unfold PI at hx2; omega))
      clear hsm hKY hSY HKX HTX HOX hq0 hq1
      go_roundw
      case rel => exact ⟨i + 1, nn', _, _, _, _, _, _, by go_num, rfl, hnn, by omega, ⟨_, _, by rw [List.length_append, List.length_singleton]⟩, HKY.out, HTY.out, HOY.out⟩
      case measure => simp [intOf]; omega
    --@@F 2
theorem piece_4 : Pc.1.2.2.2 := by
  intro w A0 n0 c0 z0 l0 m0 n1 c1 z1 l1 m1 HZ0 hn80 Q'z1 hz1 w0 HB0 w1 A lo hi b rb hlo hle gp gm W1 Kz1 az1 u4 u11 u12z1 u13z1 u14z1 u26z1 u27z1 u28z1 u29z1 u30z1 u31z1 u32z1 u33z1 u34z1 u35z1 u36z1 u37z1 u38z1 u39z1 u40z1 u41z1 u42z1 u43z1 u44z1 u45z1 u46z1 u47z1 u48z1 u49z1 u50z1 u51z1 u52z1 u53z1 u54z1 u55z1 u56z1 u57z1 u58z1 u59z1 u60z1 u61z1 u62z1 u63z1 u64z1 u65z1 u66z1 u67z1 u68z1 u69z1 u70z1 u71z1 u72z1 u73z1 u74z1 u75z1 u76z1 u77z1 u78z1 u79z1 u80z1 u81z1 u82z1 u83z1 u84z1 u85z1 u86z1 u87z1 u88z1 u89z1 u90z1 u91z1 u92z1 u93z1 u94z1 u95z1 u96z1 u97z1 u98z1 u99z1 u100z1 u101z1 u102z1 u103z1 u104z1 u105z1 u106z1 u107z1 u108z1 u109z1 u110z1 u111z1 u112z1 u113z1 u114z1 u115z1 u116z1 u117z1 u118z1 u119z1 u120z1 u121z1 u122z1 u123z1 u124z1 u125z1 u126z1 u127z1 u128z1 u129z1 u130z1 u131z1 u132z1 u133z1 u134z1 u135z1 u136z1 u137z1 u138z1 u139z1 u140z1 u141z1 u142z1 u143z1 u144z1 u145z1 u146z1 u147z1 u148z1 u149z1 u150z1 u151z1 u152z1 u153z1 u154z1 u155z1 u156z1 u157z1 u158z1 u159z1 u160z1 u161z1 u162z1 u163z1 u164z1 u165z1 u166z1 u167z1 u168z1 u169z1 u170z1 u171z1 u172z1 u173z1 u174z1 u175z1 u176z1 u177z1 u178z1 u179z1 u180z1 u181z1 u182z1 u183z1 u184z1 u185z1 u186z1 u187z1 u188z1 u189z1 u190z1 u191z1 u192z1 u193z1 u194z1 u195z1 u196z1 u197z1 u198z1 u199z1 u200z1 u201z1 u202z1 u203z1 u204z1 u205z1 u206z1 u207z1 u208z1 u209z1 u210z1 u211z1 u212z1 u213z1 u214z1 u215z1 u216z1 u217z1 u218z1 u219z1 u220z1 u221z1 u222z1 u223z1 u224z1 u225z1 u226z1 u227z1 u228z1 u229z1 u230z1 u231z1 u232z1 u233z1 i nn T L N held p rg hni hi1 Ah ch hlt hltI tb1 toff tx HZ1 htb t ht4 t3 Q'z2 Kz2 az2 Kz3 az3 wcz1 u26z2 u27z2 u28z2 u29z2 u30z2 u31z2 u32z2 u33z2 u34z2 u35z2 u36z2 u37z2 u38z2 u39z2 u40z2 u41z2 u42z2 u43z2 u44z2 u45z2 u46z2 u47z2 u49z2 u50z2 u51z2 u52z2 u53z2 u54z2 u55z2 u56z2 u57z2 u58z2 u59z2 u60z2 u61z2 u62z2 u63z2 u64z2 u65z2 u66z2 u67z2 u68z2 u69z2 u70z2 u71z2 u72z2 u73z2 u74z2 u75z2 u76z2 u77z2 u78z2 u79z2 u80z2 u81z2 u82z2 u83z2 u84z2 u85z2 u86z2 u87z2 u88z2 u89z2 u90z2 u91z2 u92z2 u93z2 u94z2 u95z2 u96z2 u97z2 u98z2 u99z2 u100z2 u101z2 u102z2 u103z2 u104z2 u105z2 u106z2 u107z2 u108z2 u109z2 u110z2 u111z2 u112z2 u113z2 u114z2 u115z2 u116z2 u117z2 u118z2 u119z2 u120z2 u121z2 u122z2 u123z2 u124z2 u125z2 u126z2 u127z2 u128z2 u129z2 u130z2 u131z2 u132z2 u133z2 u134z2 u135z2 u136z2 u137z2 u138z2 u139z2 u140z2 u141z2 u142z2 u143z2 u144z2 u145z2 u146z2 u147z2 u148z2 u149z2 u150z2 u151z2 u152z2 u153z2 u154z2 u155z2 u156z2 u157z2 u158z2 u159z2 u160z2 u161z2 u162z2 u163z2 u164z2 u165z2 u166z2 u167z2 u168z2 u169z2 u170z2 u171z2 u172z2 u173z2 u174z2 u175z2 u176z2 u177z2 u178z2 u179z2 u180z2 u181z2 u182z2 u183z2 u184z2 u185z2 u186z2 u187z2 u188z2 u189z2 u190z2 u191z2 u192z2 u193z2 u194z2 u195z2 u196z2 u197z2 u198z2 u199z2 u200z2 u201z2 u202z2 u203z2 u204z2 u205z2 u206z2 u207z2 u208z2 u209z2 u210z2 u211z2 u212z2 u213z2 u214z2 u215z2 u216z2 u217z2 u218z2 u219z2 u220z2 u221z2 u222z2 u223z2 u224z2 u225z2 u226z2 u227z2 u228z2 u229z2 u230z2 u231z2 u232z2 u233z2 wc u12 u13 u14 u26 u27 u28 u29 u30 u31 u32 u33 u34 u35 u36 u37 u38 u39 u40 u41 u42 u43 u44 u45 u46 u47 u48 u49 u50 u51 u52 u53 u54 u55 u56 u57 u58 u59 u60 u61 u62 u63 u64 u65 u66 u67 u68 u69 u70 u71 u72 u73 u74 u75 u76 u77 u78 u79 u80 u81 u82 u83 u84 u85 u86 u87 u88 u89 u90 u91 u92 u93 u94 u95 u96 u97 u98 u99 u100 u101 u102 u103 u104 u105 u106 u107 u108 u109 u110 u111 u112 u113 u114 u115 u116 u117 u118 u119 u120 u121 u122 u123 u124 u125 u126 u127 u128 u129 u130 u131 u132 u133 u134 u135 u136 u137 u138 u139 u140 u141 u142 u143 u144 u145 u146 u147 u148 u149 u150 u151 u152 u153 u154 u155 u156 u157 u158 u159 u160 u161 u162 u163 u164 u165 u166 u167 u168 u169 u170 u171 u172 u173 u174 u175 u176 u177 u178 u179 u180 u181 u182 u183 u184 u185 u186 u187 u188 u189 u190 u191 u192 u193 u194 u195 u196 u197 u198 u199 u200 u201 u202 u203 u204 u205 u206 u207 u208 u209 u210 u211 u212 u213 u214 u215 u216 u217 u218 u219 u220 u221 u222 u223 u224 u225 u226 u227 u228 u229 u230 u231 u232 u233 nn' held' p' rg' hnn Ah' ch' HK4 HT4 HO4 hg4 hod HKL g st c bk x ho
  obtain ⟨y, hy⟩ : ∃ y, rg' t = y := ⟨_, rfl⟩
  have hm0 : wc.cell? ⟨gm, t * 4 + 1, none⟩ = some (.pointer (some ⟨g, 0, none⟩)) := (A16_at HT4.out (by omega)).trans (by rw [tb_at (by decide), ho]; rfl)
  have hmz : wc.cell? ⟨gm, t * 4, none⟩ = some (.pointer none) := (A16_at HT4.out (by omega)).trans (by rw [tb_at0, ho]; rfl)
  go_upto_region 31 with (fail)
  clear hmz
  have hm1 : wc.cell? ⟨gm, t * 4 + 3, none⟩ = some (.pointer (some ⟨y, 0, none⟩)) := (A16_at HT4.out (by omega)).trans (by rw [tb_at (by decide), ho, hy]; rfl)
  have hp0 : wc.cell? ⟨gp, 0, none⟩ = some (.pointer (some ⟨b, 0, none⟩)) := HK4.out.pm.cell 0
  have hp1 : wc.cell? ⟨gp, 1, none⟩ = some (.pointer (some ⟨rb, 0, none⟩)) := HK4.out.pm.cell 1
  have hgo : gOf (p' t) = some g := by rw [ho]; rfl
  have hgg := HK4.out.core.gb t g t3 hgo
  have hyy := HK4.out.rb2 t t3 (by rw [hgo]; simp)
  rw [hy] at hyy
  have hgml : gm < wc.drew.heap.size := HT4.out.lt
  have hgpl : gp < wc.drew.heap.size := HK4.out.pm.lt
  have hgmp : ¬ P2 lo hi g y gm := by unfold P2; omega
  have hgpp : ¬ P2 lo hi g y gp := by unfold P2; omega
  have hbb := (HK4.out.below (below_drewN (Below.refl _ wc) 1))
  rw [show wc.drewN 1 = wc.drew from rfl] at hbb
  obtain ⟨k1, k2, k3, k4, k5, d, st', x', T', L', N', p'', S1, S2, hst1, hst2, hF1, hS2, hO⟩ := push_both hbb (by omega) t3 ho
  rw [hy] at hst2 hF1 hS2
  obtain ⟨D, hD⟩ : ∃ D, ((st' : Int) == 3) = D := ⟨_, rfl⟩
  have HD := Lib.hid hD
  have HST1 := Lib.hid hst1
  have HS12 := Lib.hid hst2
  have HF1 := Lib.hid hF1
  have HS2 := Lib.hid hS2
  have HF2 := Lib.hid (fun w h => (hS2 w h).1)
  have HOO := Lib.hid hO
  replace hm0 : wc.drew.cell? ⟨gm, t * 4 + 1, none⟩ = some (.pointer (some ⟨g, 0, none⟩)) := hm0
  replace hm1 : wc.drew.cell? ⟨gm, t * 4 + 3, none⟩ = some (.pointer (some ⟨y, 0, none⟩)) := hm1
  replace hp0 : wc.drew.cell? ⟨gp, 0, none⟩ = some (.pointer (some ⟨b, 0, none⟩)) := hp0
  replace hp1 : wc.drew.cell? ⟨gp, 1, none⟩ = some (.pointer (some ⟨rb, 0, none⟩)) := hp1
  replace HT4 : Hid (Mem wc.drew gm TM (A16 (tb p' rg'))) := HT4
  replace HO4 : Hid (OwnQ wc.drew (gm + 1) _ _) := HO4
  replace HK4 := Lib.hid hbb
  clear hbb hO hst1 hst2 hF1 hS2 hgo hD
  refine Rgn.region_lists (by kernel_rfl) [some 189, some 190, some 191, some 192, some 193, some 194, some 195, some 196, some 197, some 198, some 199, some 200, some 201, some 202, some 203, some 204, some 205, some 206, some 207, some 208, some 209, some 210, some 211, some 212, some 213, some 214, some 215, some 216, some 217, some 218, some 219]
    (fun gh => [.int .i64 t, .pointer (some ⟨gm, t * 4, none⟩), .pointer (some ⟨gm, t * 4 + 1, none⟩), .pointer (some ⟨g, 0, none⟩), .pointer (some ⟨gp, 0, none⟩), .pointer (some ⟨b, 0, none⟩), (accV k1 k2 k3 k4 k5 d), .int .i64 t, .pointer (some ⟨gm, t * 4, none⟩), .pointer (some ⟨gm, t * 4 + 3, none⟩), .pointer (some ⟨y, 0, none⟩), .pointer (some ⟨gp, 1, none⟩), .pointer (some ⟨rb, 0, none⟩), (accV k1 k2 k3 k4 k5 d), .bool false, .bool false, .int .i64 t, .pointer (some ⟨gm, t * 4, none⟩), .pointer (some ⟨gm, t * 4 + 1, none⟩), .pointer (some ⟨g, 0, none⟩), .bool D, .int .i64 t, .pointer (some ⟨gm, t * 4, none⟩), .pointer (some ⟨gm, t * 4 + 3, none⟩), .pointer (some ⟨y, 0, none⟩), .pointer (some ⟨y, 0, none⟩), .pointer (some ⟨y, 2, none⟩), .int .i64 (st' : Int), .bool D, .bool false, .bool false])
    (fun (_ : Unit) L w9 => tri (L 6) (L 13) wc.drew S1 S2 w9) () 31 235 (by kernel_rfl) (by kernel_rfl) (fun _ => rfl) (by kernel_rfl) (by kernel_rfl) rfl ?_ ?_
  · skip
    --@@Q 1
    intro i hi gh L a wq hS hLi hup hdn hold hv K hK
    have hi' : i = 0 ∨ i = 1 ∨ i = 2 ∨ i = 3 ∨ i = 4 ∨ i = 5 ∨ i = 6 ∨ i = 7 ∨ i = 8 ∨ i = 9 ∨ i = 10 ∨ i = 11 ∨ i = 12 ∨ i = 13 ∨ i = 14 ∨ i = 15 ∨ i = 16 ∨ i = 17 ∨ i = 18 ∨ i = 19 ∨ i = 20 ∨ i = 21 ∨ i = 22 ∨ i = 23 ∨ i = 24 ∨ i = 25 ∨ i = 26 ∨ i = 27 ∨ i = 28 ∨ i = 29 ∨ i = 30 := by omega
    clear hi
    rcases hi' with rfl | rfl | rfl | rfl | rfl | rfl | rfl | rfl | rfl | rfl | rfl | rfl | rfl | rfl | rfl | rfl | rfl | rfl | rfl | rfl | rfl | rfl | rfl | rfl | rfl | rfl | rfl | rfl | rfl | rfl | rfl
    · have q11 : a.tmps[11]?.getD undef = .int .i64 t := (hold 11 (by kernel_rfl)).trans (by kernel_rfl)
      have hdx := HD.out
      have HS := Lib.hid hS
      clear hS hup hdn hold hv hLi
      refine Rgn.op_of rfl rfl ?_
      go_simp
      exact hK () _ (fun _ _ _ => rfl) HS.out
    · have q7 : a.tmps[7]?.getD undef = .pointer (some ⟨gm, 0, none⟩) := (hold 7 (by kernel_rfl)).trans (by kernel_rfl)
      have q189 : a.tmps[189]?.getD undef = .int .i64 t := hv 0 189 (by kernel_rfl) (by kernel_rfl)
      have hdx := HD.out
      have HS := Lib.hid hS
      clear hS hup hdn hold hv hLi
      refine Rgn.op_of rfl rfl ?_
      go_simp
      exact hK () _ (fun _ _ _ => rfl) HS.out
    · have q190 : a.tmps[190]?.getD undef = .pointer (some ⟨gm, t * 4, none⟩) := hv 1 190 (by kernel_rfl) (by kernel_rfl)
      have hdx := HD.out
      have HS := Lib.hid hS
      clear hS hup hdn hold hv hLi
      refine Rgn.op_of rfl rfl ?_
      go_simp
      exact hK () _ (fun _ _ _ => rfl) HS.out
    · have q191 : a.tmps[191]?.getD undef = .pointer (some ⟨gm, t * 4 + 1, none⟩) := hv 2 191 (by kernel_rfl) (by kernel_rfl)
      have hdx := HD.out
      have h0 : tri (L 6) (L 13) wc.drew S1 S2 wq := hS
      have hfr := tri_fr h0 HF1.out HF2.out
      have hcl : wq.cell? ⟨gm, t * 4 + 1, none⟩ = some (.pointer (some ⟨g, 0, none⟩)) := (World.cell?_of_block (hfr.block _ hgml hgmp)).trans hm0
      clear h0 hfr
      have HS := Lib.hid hS
      clear hS hup hdn hold hv hLi
      refine Rgn.op_of rfl rfl ?_
      go_simp
      exact hK () _ (fun _ _ _ => rfl) HS.out
    · have q5 : a.tmps[5]?.getD undef = .pointer (some ⟨gp, 0, none⟩) := (hold 5 (by kernel_rfl)).trans (by kernel_rfl)
      have hdx := HD.out
      have HS := Lib.hid hS
      clear hS hup hdn hold hv hLi
      refine Rgn.op_of rfl rfl ?_
      go_simp
      exact hK () _ (fun _ _ _ => rfl) HS.out
    · have q193 : a.tmps[193]?.getD undef = .pointer (some ⟨gp, 0, none⟩) := hv 4 193 (by kernel_rfl) (by kernel_rfl)
      have hdx := HD.out
      have h0 : tri (L 6) (L 13) wc.drew S1 S2 wq := hS
      have hfr := tri_fr h0 HF1.out HF2.out
      have hcl : wq.cell? ⟨gp, 0, none⟩ = some (.pointer (some ⟨b, 0, none⟩)) := (World.cell?_of_block (hfr.block _ hgpl hgpp)).trans hp0
      clear h0 hfr
      have HS := Lib.hid hS
      clear hS hup hdn hold hv hLi
      refine Rgn.op_of rfl rfl ?_
      go_simp
      exact hK () _ (fun _ _ _ => rfl) HS.out
    · have q192 : a.tmps[192]?.getD undef = .pointer (some ⟨g, 0, none⟩) := hv 3 192 (by kernel_rfl) (by kernel_rfl)
      have q194 : a.tmps[194]?.getD undef = .pointer (some ⟨b, 0, none⟩) := hv 5 194 (by kernel_rfl) (by kernel_rfl)
      have hdx := HD.out
      have z6 : L 6 = false := hLi
      have z13 : L 13 = false := hdn 13 rfl (by kernel_rfl)
      have h0 : tri (L 6) (L 13) wc.drew S1 S2 wq := hS
      rw [z6] at h0
      have hw : wq = wc.drew := h0
      have hst1 := HST1.out
      rw [← hw] at hst1
      clear hw h0
      have HS := Lib.hid hS
      clear hS hup hdn hold hv hLi
      refine Rgn.op_of rfl rfl ?_
      go_simp
      go_at_call 24
      (with_reducible refine (hst1).mono ?_)
      rintro e w5 ⟨rfl, hw5⟩
      refine hK () _ (fun _ _ _ => rfl) ?_
      show tri (Rgn.mark L 6 6) (Rgn.mark L 6 13) wc.drew S1 S2 _
      rw [Rgn.mark_self, Rgn.mark_ne (show 13 ≠ 6 by decide), z13]
      exact hw5
    · have q11 : a.tmps[11]?.getD undef = .int .i64 t := (hold 11 (by kernel_rfl)).trans (by kernel_rfl)
      have hdx := HD.out
      have HS := Lib.hid hS
      clear hS hup hdn hold hv hLi
      refine Rgn.op_of rfl rfl ?_
      go_simp
      exact hK () _ (fun _ _ _ => rfl) HS.out
    · have q7 : a.tmps[7]?.getD undef = .pointer (some ⟨gm, 0, none⟩) := (hold 7 (by kernel_rfl)).trans (by kernel_rfl)
      have q196 : a.tmps[196]?.getD undef = .int .i64 t := hv 7 196 (by kernel_rfl) (by kernel_rfl)
      have hdx := HD.out
      have HS := Lib.hid hS
      clear hS hup hdn hold hv hLi
      refine Rgn.op_of rfl rfl ?_
      go_simp
      exact hK () _ (fun _ _ _ => rfl) HS.out
    · have q197 : a.tmps[197]?.getD undef = .pointer (some ⟨gm, t * 4, none⟩) := hv 8 197 (by kernel_rfl) (by kernel_rfl)
      have hdx := HD.out
      have HS := Lib.hid hS
      clear hS hup hdn hold hv hLi
      refine Rgn.op_of rfl rfl ?_
      go_simp
      exact hK () _ (fun _ _ _ => rfl) HS.out
    · have q198 : a.tmps[198]?.getD undef = .pointer (some ⟨gm, t * 4 + 3, none⟩) := hv 9 198 (by kernel_rfl) (by kernel_rfl)
      have hdx := HD.out
      have h0 : tri (L 6) (L 13) wc.drew S1 S2 wq := hS
      have hfr := tri_fr h0 HF1.out HF2.out
      have hcl : wq.cell? ⟨gm, t * 4 + 3, none⟩ = some (.pointer (some ⟨y, 0, none⟩)) := (World.cell?_of_block (hfr.block _ hgml hgmp)).trans hm1
      clear h0 hfr
      have HS := Lib.hid hS
      clear hS hup hdn hold hv hLi
      refine Rgn.op_of rfl rfl ?_
      go_simp
      exact hK () _ (fun _ _ _ => rfl) HS.out
    · have q5 : a.tmps[5]?.getD undef = .pointer (some ⟨gp, 0, none⟩) := (hold 5 (by kernel_rfl)).trans (by kernel_rfl)
      have hdx := HD.out
      have HS := Lib.hid hS
      clear hS hup hdn hold hv hLi
      refine Rgn.op_of rfl rfl ?_
      go_simp
      exact hK () _ (fun _ _ _ => rfl) HS.out
    · have q200 : a.tmps[200]?.getD undef = .pointer (some ⟨gp, 1, none⟩) := hv 11 200 (by kernel_rfl) (by kernel_rfl)
      have hdx := HD.out
      have h0 : tri (L 6) (L 13) wc.drew S1 S2 wq := hS
      have hfr := tri_fr h0 HF1.out HF2.out
      have hcl : wq.cell? ⟨gp, 1, none⟩ = some (.pointer (some ⟨rb, 0, none⟩)) := (World.cell?_of_block (hfr.block _ hgpl hgpp)).trans hp1
      clear h0 hfr
      have HS := Lib.hid hS
      clear hS hup hdn hold hv hLi
      refine Rgn.op_of rfl rfl ?_
      go_simp
      exact hK () _ (fun _ _ _ => rfl) HS.out
    · have q199 : a.tmps[199]?.getD undef = .pointer (some ⟨y, 0, none⟩) := hv 10 199 (by kernel_rfl) (by kernel_rfl)
      have q201 : a.tmps[201]?.getD undef = .pointer (some ⟨rb, 0, none⟩) := hv 12 201 (by kernel_rfl) (by kernel_rfl)
      have hdx := HD.out
      have z6 : L 6 = true := hup 6 (by kernel_rfl)
      have z13 : L 13 = false := hLi
      have h0 : tri (L 6) (L 13) wc.drew S1 S2 wq := hS
      rw [z6, z13] at h0
      have hst2 := HS12.out wq h0
      have HS := Lib.hid hS
      clear hS hup hdn hold hv hLi
      refine Rgn.op_of rfl rfl ?_
      go_simp
      go_at_call 25
      (with_reducible refine (hst2).mono ?_)
      rintro e w5 ⟨rfl, hw5⟩
      refine hK () _ (fun _ _ _ => rfl) ?_
      show tri (Rgn.mark L 13 6) (Rgn.mark L 13 13) wc.drew S1 S2 _
      rw [Rgn.mark_self, Rgn.mark_ne (show 6 ≠ 13 by decide), z6]
      exact hw5
    · have q195 : a.tmps[195]?.getD undef = (accV k1 k2 k3 k4 k5 d) := hv 6 195 (by kernel_rfl) (by kernel_rfl)
      have q202 : a.tmps[202]?.getD undef = (accV k1 k2 k3 k4 k5 d) := hv 13 202 (by kernel_rfl) (by kernel_rfl)
      have hdx := HD.out
      have HS := Lib.hid hS
      clear hS hup hdn hold hv hLi
      refine Rgn.op_of rfl rfl ?_
      go_simp
      exact hK () _ (fun _ _ _ => rfl) HS.out
    · have q203 : a.tmps[203]?.getD undef = .bool false := hv 14 203 (by kernel_rfl) (by kernel_rfl)
      have hdx := HD.out
      have HS := Lib.hid hS
      clear hS hup hdn hold hv hLi
      refine Rgn.op_of rfl rfl ?_
      go_simp
      exact hK () _ (fun _ _ _ => rfl) HS.out
    · have q11 : a.tmps[11]?.getD undef = .int .i64 t := (hold 11 (by kernel_rfl)).trans (by kernel_rfl)
      have hgd : a.tmps[204]?.getD undef = .bool false := hv 15 204 (by kernel_rfl) (by kernel_rfl)
      have hdx := HD.out
      have HS := Lib.hid hS
      clear hS hup hdn hold hv hLi
      refine Rgn.op_of_guard (j := 15) (d := 204) (b := false) rfl rfl (by kernel_rfl) hgd ?_
      clear hgd
      go_simp
      exact hK () _ (fun _ _ _ => rfl) HS.out
    · have q7 : a.tmps[7]?.getD undef = .pointer (some ⟨gm, 0, none⟩) := (hold 7 (by kernel_rfl)).trans (by kernel_rfl)
      have q205 : a.tmps[205]?.getD undef = .int .i64 t := hv 16 205 (by kernel_rfl) (by kernel_rfl)
      have hgd : a.tmps[204]?.getD undef = .bool false := hv 15 204 (by kernel_rfl) (by kernel_rfl)
      have hdx := HD.out
      have HS := Lib.hid hS
      clear hS hup hdn hold hv hLi
      refine Rgn.op_of_guard (j := 15) (d := 204) (b := false) rfl rfl (by kernel_rfl) hgd ?_
      clear hgd
      go_simp
      exact hK () _ (fun _ _ _ => rfl) HS.out
    · have q206 : a.tmps[206]?.getD undef = .pointer (some ⟨gm, t * 4, none⟩) := hv 17 206 (by kernel_rfl) (by kernel_rfl)
      have hgd : a.tmps[204]?.getD undef = .bool false := hv 15 204 (by kernel_rfl) (by kernel_rfl)
      have hdx := HD.out
      have HS := Lib.hid hS
      clear hS hup hdn hold hv hLi
      refine Rgn.op_of_guard (j := 15) (d := 204) (b := false) rfl rfl (by kernel_rfl) hgd ?_
      clear hgd
      go_simp
      exact hK () _ (fun _ _ _ => rfl) HS.out
    · have q207 : a.tmps[207]?.getD undef = .pointer (some ⟨gm, t * 4 + 1, none⟩) := hv 18 207 (by kernel_rfl) (by kernel_rfl)
      have hgd : a.tmps[204]?.getD undef = .bool false := hv 15 204 (by kernel_rfl) (by kernel_rfl)
      have hdx := HD.out
      have h0 : tri (L 6) (L 13) wc.drew S1 S2 wq := hS
      have hfr := tri_fr h0 HF1.out HF2.out
      have hcl : wq.cell? ⟨gm, t * 4 + 1, none⟩ = some (.pointer (some ⟨g, 0, none⟩)) := (World.cell?_of_block (hfr.block _ hgml hgmp)).trans hm0
      clear h0 hfr
      have HS := Lib.hid hS
      clear hS hup hdn hold hv hLi
      refine Rgn.op_of_guard (j := 15) (d := 204) (b := false) rfl rfl (by kernel_rfl) hgd ?_
      clear hgd
      go_simp
      exact hK () _ (fun _ _ _ => rfl) HS.out
    · have q208 : a.tmps[208]?.getD undef = .pointer (some ⟨g, 0, none⟩) := hv 19 208 (by kernel_rfl) (by kernel_rfl)
      have hgd : a.tmps[204]?.getD undef = .bool false := hv 15 204 (by kernel_rfl) (by kernel_rfl)
      have hdx := HD.out
      have z6 : L 6 = true := hup 6 (by kernel_rfl)
      have z13 : L 13 = true := hup 13 (by kernel_rfl)
      have h0 : tri (L 6) (L 13) wc.drew S1 S2 wq := hS
      rw [z6, z13] at h0
      have hdn2 := u_done g _ _ _ _ wq (HS2.out wq h0).2.1
      rw [HD.out] at hdn2
      have HS := Lib.hid hS
      clear hS hup hdn hold hv hLi
      refine Rgn.op_of_guard (j := 15) (d := 204) (b := false) rfl rfl (by kernel_rfl) hgd ?_
      clear hgd
      go_simp
      go_at_call 26
      (with_reducible refine (hdn2).mono ?_)
      rintro e w5 ⟨rfl, hw5⟩
      rw [← hw5]
      exact hK () _ (fun _ _ _ => rfl) HS.out
    · have q11 : a.tmps[11]?.getD undef = .int .i64 t := (hold 11 (by kernel_rfl)).trans (by kernel_rfl)
      have hgd : a.tmps[204]?.getD undef = .bool false := hv 15 204 (by kernel_rfl) (by kernel_rfl)
      have hdx := HD.out
      have HS := Lib.hid hS
      clear hS hup hdn hold hv hLi
      refine Rgn.op_of_guard (j := 15) (d := 204) (b := false) rfl rfl (by kernel_rfl) hgd ?_
      clear hgd
      go_simp
      exact hK () _ (fun _ _ _ => rfl) HS.out
    · have q7 : a.tmps[7]?.getD undef = .pointer (some ⟨gm, 0, none⟩) := (hold 7 (by kernel_rfl)).trans (by kernel_rfl)
      have q210 : a.tmps[210]?.getD undef = .int .i64 t := hv 21 210 (by kernel_rfl) (by kernel_rfl)
      have hgd : a.tmps[204]?.getD undef = .bool false := hv 15 204 (by kernel_rfl) (by kernel_rfl)
      have hdx := HD.out
      have HS := Lib.hid hS
      clear hS hup hdn hold hv hLi
      refine Rgn.op_of_guard (j := 15) (d := 204) (b := false) rfl rfl (by kernel_rfl) hgd ?_
      clear hgd
      go_simp
      exact hK () _ (fun _ _ _ => rfl) HS.out
    · have q211 : a.tmps[211]?.getD undef = .pointer (some ⟨gm, t * 4, none⟩) := hv 22 211 (by kernel_rfl) (by kernel_rfl)
      have hgd : a.tmps[204]?.getD undef = .bool false := hv 15 204 (by kernel_rfl) (by kernel_rfl)
      have hdx := HD.out
      have HS := Lib.hid hS
      clear hS hup hdn hold hv hLi
      refine Rgn.op_of_guard (j := 15) (d := 204) (b := false) rfl rfl (by kernel_rfl) hgd ?_
      clear hgd
      go_simp
      exact hK () _ (fun _ _ _ => rfl) HS.out
    · have q212 : a.tmps[212]?.getD undef = .pointer (some ⟨gm, t * 4 + 3, none⟩) := hv 23 212 (by kernel_rfl) (by kernel_rfl)
      have hgd : a.tmps[204]?.getD undef = .bool false := hv 15 204 (by kernel_rfl) (by kernel_rfl)
      have hdx := HD.out
      have h0 : tri (L 6) (L 13) wc.drew S1 S2 wq := hS
      have hfr := tri_fr h0 HF1.out HF2.out
      have hcl : wq.cell? ⟨gm, t * 4 + 3, none⟩ = some (.pointer (some ⟨y, 0, none⟩)) := (World.cell?_of_block (hfr.block _ hgml hgmp)).trans hm1
      clear h0 hfr
      have HS := Lib.hid hS
      clear hS hup hdn hold hv hLi
      refine Rgn.op_of_guard (j := 15) (d := 204) (b := false) rfl rfl (by kernel_rfl) hgd ?_
      clear hgd
      go_simp
      exact hK () _ (fun _ _ _ => rfl) HS.out
    · have q213 : a.tmps[213]?.getD undef = .pointer (some ⟨y, 0, none⟩) := hv 24 213 (by kernel_rfl) (by kernel_rfl)
      have hgd : a.tmps[204]?.getD undef = .bool false := hv 15 204 (by kernel_rfl) (by kernel_rfl)
      have hdx := HD.out
      have HS := Lib.hid hS
      clear hS hup hdn hold hv hLi
      refine Rgn.op_of_guard (j := 15) (d := 204) (b := false) rfl rfl (by kernel_rfl) hgd ?_
      clear hgd
      go_simp
      exact hK () _ (fun _ _ _ => rfl) HS.out
    · have q214 : a.tmps[214]?.getD undef = .pointer (some ⟨y, 0, none⟩) := hv 25 214 (by kernel_rfl) (by kernel_rfl)
      have hgd : a.tmps[204]?.getD undef = .bool false := hv 15 204 (by kernel_rfl) (by kernel_rfl)
      have hdx := HD.out
      have HS := Lib.hid hS
      clear hS hup hdn hold hv hLi
      refine Rgn.op_of_guard (j := 15) (d := 204) (b := false) rfl rfl (by kernel_rfl) hgd ?_
      clear hgd
      go_simp
      exact hK () _ (fun _ _ _ => rfl) HS.out
    · have q215 : a.tmps[215]?.getD undef = .pointer (some ⟨y, 2, none⟩) := hv 26 215 (by kernel_rfl) (by kernel_rfl)
      have hgd : a.tmps[204]?.getD undef = .bool false := hv 15 204 (by kernel_rfl) (by kernel_rfl)
      have hdx := HD.out
      have z6 : L 6 = true := hup 6 (by kernel_rfl)
      have z13 : L 13 = true := hup 13 (by kernel_rfl)
      have h0 : tri (L 6) (L 13) wc.drew S1 S2 wq := hS
      rw [z6, z13] at h0
      have hcl : wq.cell? ⟨y, 2, none⟩ = some (.int .i64 (st' : Int)) := (HS2.out wq h0).2.2.1.cell 2
      clear h0
      have HS := Lib.hid hS
      clear hS hup hdn hold hv hLi
      refine Rgn.op_of_guard (j := 15) (d := 204) (b := false) rfl rfl (by kernel_rfl) hgd ?_
      clear hgd
      go_simp
      exact hK () _ (fun _ _ _ => rfl) HS.out
    · have q216 : a.tmps[216]?.getD undef = .int .i64 (st' : Int) := hv 27 216 (by kernel_rfl) (by kernel_rfl)
      have hgd : a.tmps[204]?.getD undef = .bool false := hv 15 204 (by kernel_rfl) (by kernel_rfl)
      have hdx := HD.out
      have HS := Lib.hid hS
      clear hS hup hdn hold hv hLi
      refine Rgn.op_of_guard (j := 15) (d := 204) (b := false) rfl rfl (by kernel_rfl) hgd ?_
      clear hgd
      go_simp
      exact hK () _ (fun _ _ _ => rfl) HS.out
    · have q209 : a.tmps[209]?.getD undef = .bool D := hv 20 209 (by kernel_rfl) (by kernel_rfl)
      have q217 : a.tmps[217]?.getD undef = .bool D := hv 28 217 (by kernel_rfl) (by kernel_rfl)
      have hgd : a.tmps[204]?.getD undef = .bool false := hv 15 204 (by kernel_rfl) (by kernel_rfl)
      have hdx := HD.out
      have HS := Lib.hid hS
      clear hS hup hdn hold hv hLi
      refine Rgn.op_of_guard (j := 15) (d := 204) (b := false) rfl rfl (by kernel_rfl) hgd ?_
      clear hgd
      go_simp
      exact hK () _ (fun _ _ _ => rfl) HS.out
    · have q204 : a.tmps[204]?.getD undef = .bool false := hv 15 204 (by kernel_rfl) (by kernel_rfl)
      have q218 : a.tmps[218]?.getD undef = .bool false := hv 29 218 (by kernel_rfl) (by kernel_rfl)
      have hdx := HD.out
      have HS := Lib.hid hS
      clear hS hup hdn hold hv hLi
      refine Rgn.op_of rfl rfl ?_
      go_simp
      exact hK () _ (fun _ _ _ => rfl) HS.out
    --@@F 1
  · skip
    --@@Q 2
    intro gh L wq hall hS
    have h0 : tri (L 6) (L 13) wc.drew S1 S2 wq := hS
    rw [hall 6 rfl, hall 13 rfl] at h0
    obtain ⟨hF, hM, hM2, hKB⟩ := HS2.out wq h0
    clear h0 hS hall
    simp only [Rgn.putAll, Act.put]
    go_simp
    go_at_K
    have hF9 := hF
    have HT5 := Lib.hid (mem_fr HT4.out hF hgmp)
    have HO5 := Lib.hid (HO4.out.fr hF (fun x hx hx2 => by
      rcases hx2 with hx2 | hx2 | hx2
      · have := hx.1; have := HK4.out.od; omega
      · subst hx2; exact mbox_pq (HK4.out.core.en t t3) (by rw [ho]; rfl) hx
      · subst hx2; rw [← hy] at hx; exact box_pq (HK4.out.rx t t3) (by rw [ho]; simp [gOf]) hx))
    have HK5 := Lib.hid hKB
    have hcm : wq.cell? ⟨gm, t * 4 + 3, none⟩ = some (.pointer (some ⟨y, 0, none⟩)) := (World.cell?_of_block (hF.block gm hgml hgmp)).trans hm1
    have hcy : wq.cell? ⟨y, 2, none⟩ = some (.int .i64 (st' : Int)) := hM2.cell 2
    have hO := HOO.out
    clear HOO
    rcases hO with ⟨h1, rfl, rfl, rfl⟩ | ⟨h1, rfl, rfl, rfl, rfl⟩
    · have hd3 : ((st' : Int) == 3) = false := by simp; omega
      have HKX := HK5
      have HTX : Hid (Mem wq gm TM (A16 (tb (up p' t (.push g st' c bk x')) rg'))) := Lib.hid (by rw [A16_congr fun i _ => (tb_go2 ho i).symm]; exact HT5.out)
      have HOX := HO5
      clear hF hF9 hM hM2 hKB HK4 HT4 HO4 HF1 HF2 HS2 HS12 HST1 hm0 hm1 hp0 hp1
      have hq0 := (HKX.out).pm.cell 0
      have hq1 := (HKX.out).pm.cell 1
      simp at hq0 hq1
      have hsm := same_both HKX.out
      go_wp2_with (go_at_call 27; (with_reducible refine hsm.mono ?_); rintro e w7 ⟨rfl, hKY, hSY⟩)
      have HKY := Lib.hid hKY
      have HTY := Lib.hid (Mem.of_eq HTX.out (hSY.block gm HTX.out.lt (.inr (by have := HKX.out.od; omega))))
      have HOY := Lib.hid (HOX.out.fr (Fr.of_stay (P := PI lo hi) hSY (fun x a c => ⟨a, c⟩)) (fun x hx hx2 => by have := hx.1; have := HKX.out.od; unfold PI at hx2; omega))
      clear hsm hKY hSY HKX HTX HOX hq0 hq1
      go_roundw
      case rel => exact ⟨i + 1, nn', _, _, _, _, _, _, by go_num, rfl, hnn, by omega, ⟨_, _, rfl⟩, HKY.out, HTY.out, HOY.out⟩
      case measure => simp [intOf]; omega
    · subst h1
      obtain ⟨vc0, hvc0⟩ : ∃ v, wq.cell? ⟨gm, t * 4, none⟩ = some v := ⟨_, A16_at HT5.out (by omega)⟩
      have hvz0 : wq.frozen? ⟨gm, t * 4, none⟩ = false := HT5.out.frozen (t * 4)
      obtain ⟨vc1, hvc1⟩ : ∃ v, wq.cell? ⟨gm, t * 4 + 1, none⟩ = some v := ⟨_, A16_at HT5.out (by omega)⟩
      have hvz1 : wq.frozen? ⟨gm, t * 4 + 1, none⟩ = false := HT5.out.frozen (t * 4 + 1)
      obtain ⟨vc2, hvc2⟩ : ∃ v, wq.cell? ⟨gm, t * 4 + 2, none⟩ = some v := ⟨_, A16_at HT5.out (by omega)⟩
      have hvz2 : wq.frozen? ⟨gm, t * 4 + 2, none⟩ = false := HT5.out.frozen (t * 4 + 2)
      have hvz3 : wq.frozen? ⟨gm, t * 4 + 3, none⟩ = false := HT5.out.frozen (t * 4 + 3)
      obtain ⟨W9, hW9, hK9, hT9, hO9⟩ := clear_tab HK5.out HT5.out HO5.out t3
      have HKX := Lib.hid hK9
      have HTX := Lib.hid hT9
      have HOX := Lib.hid hO9
      have hd3 : (((3 : Nat) : Int) == 3) = true := by decide
      clear hF hF9 hM hM2 hKB HK4 HT4 HO4 HF1 HF2 HS2 HS12 HST1 hm0 hm1 hp0 hp1
      clear hK9 hT9 hO9
      have hq0 := (HKX.out).pm.cell 0
      have hq1 := (HKX.out).pm.cell 1
      simp at hq0 hq1
      have hsm := same_both HKX.out
      go_wp2_with (go_at_call 27; (with_reducible refine hsm.mono ?_); rintro e w7 ⟨rfl, hKY, hSY⟩)
      have HKY := Lib.hid hKY
      have HTY := Lib.hid (Mem.of_eq HTX.out (hSY.block gm HTX.out.lt (.inr (by have := HKX.out.od; omega))))
      have HOY := Lib.hid (HOX.out.fr (Fr.of_stay (P := PI lo hi) hSY (fun x a c => ⟨a, c⟩)) (fun x hx hx2 => by have := hx.1; have := HKX.out.od; unfold PI at hx2; omega))
      clear hsm hKY hSY HKX HTX HOX hq0 hq1
      go_roundw
      case rel => exact ⟨i + 1, nn', _, _, _, _, _, _, by go_num, rfl, hnn, by omega, ⟨_, _, rfl⟩, HKY.out, HTY.out, HOY.out⟩
      case measure => simp [intOf]; omega
    --@@F 2
theorem walk (w : World) (A0 : Option Addr) (n0 c0 : Nat) (z0 : List Int) (l0 : n0 ≤ c0) (m0 : c0 ≤ maxLen) (s0 : Ints .i64 w A0 n0 z0) (A1 : Option Addr) (n1 c1 : Nat) (z1 : List Int) (l1 : n1 ≤ c1) (m1 : c1 ≤ maxLen) (s1 : Ints .i64 w A1 n1 z1) :
    Calls Try.prog 3 #[.slice A0 n0 c0, .slice A1 n1 c1] w fun e w' => e = .returned (.bool true) ∧ Kept w w' := Pc.2 ⟨piece_1⟩ ⟨piece_2⟩ ⟨piece_3⟩ ⟨piece_4⟩ w A0 n0 c0 z0 l0 m0 s0 A1 n1 c1 z1 l1 m1 s1
/-! The row's step. -/
set_option maxRecDepth 100000 in
theorem lifted (os : Os) (started : os.Started) (H : Type) (enc : TypeId × Value → H) :
    ReturnsInHanded {} Try.checked os 3 .any (Rows.freelistFollowsSpec.pre6 enc Try.prog Try.f3 Rows.freelistFollowsRow.domain false) (Rows.freelistFollowsSpec.post enc Try.prog Try.f3 false true false false) := by
  refine returnsInHanded_of_change (C := Try.checked) own started (by kernel_rfl) Try.func3
    (ChangeSpec.witness6 (enc := enc) (C := Try.checked) false ⟨#[], #[.slice none 0 0, .slice none 0 0], []⟩ 8 (by kernel_rfl) (by kernel_rfl) (by kernel_rfl) (by kernel_rfl)) ?_
  intro W base args ds gs before hval0 hW hcnd _
  have hval : ∀ (j : Nat) t v, Try.f3.params[j]? = some t → args[j]? = some v → Value.okWide Try.prog W .any base t v := hval0
  have hW' := hW
  obtain ⟨p, q, hA0, hV, rfl, hfz, hnd⟩ := hW
  have hA : DataW.TrodAll enc Try.prog W 0 (fun _ => true) true Try.f3.params.toList args.toList ds p := hA0
  rw [Try.params3] at hA hval
  obtain ⟨v0, vs0, d0, ds0, p0, q0, hargs, rfl, rfl, h0, r0⟩ := trodAll_cons hA
  obtain ⟨v1, vs1, d1, ds1, p1, q1, rfl, rfl, rfl, h1, r1⟩ := trodAll_cons r0
  obtain ⟨rfl, rfl, rfl⟩ := trodAll_nil r1
  obtain rfl : args = #[v0, v1] := by cases args; simp_all
  obtain ⟨rfl, rfl⟩ := trodVars_none hV
  have hk : ∀ W', Kept W W' → Rows.freelistFollowsSpec.post enc Try.prog Try.f3 false true false false W #[v0, v1] (.bool true) W' := fun W' hb =>
    post_law laidOut readable rfl Try.underlying4 rfl hW' rfl hb
  clear hA0 hval0 hA hW'
  obtain ⟨A0, n0, c0, z0, rfl, l0, m0, s0⟩ := open_slice Try.underlying22 Try.underlying3 cells3 (hval 0 22 v0 rfl rfl) h0
  obtain ⟨A1, n1, c1, z1, rfl, l1, m1, s1⟩ := open_slice Try.underlying22 Try.underlying3 cells3 (hval 1 22 v1 rfl rfl) h1
  refine (walk W A0 n0 c0 z0 l0 m0 s0 A1 n1 c1 z1 l1 m1 s1).mono fun e W' ⟨he, hg⟩ => ?_
  subst he
  exact ⟨_, rfl, hk W' hg⟩

theorem over : Rows.freelistFollowsRow.holds Try.pinned (OpenSpec.ofChange Rows.freelistFollowsSpec) :=
  OpenClaim.holds_of_wide 3 Try.f3 rfl rfl rfl rfl rfl rfl rfl ⟨rfl, rfl, rfl, rfl, rfl⟩ rfl rfl rfl rfl rfl (by kernel_rfl) Try.func3 (by kernel_rfl)
    (of_decide_eq_true (by kernel_rfl)) (by unfold Func.isWrapper; first | (rw [if_pos (by decide +kernel)]; kernel_rfl) | (rw [if_neg (by decide +kernel)]; exact ⟨rfl, rfl⟩))
    (fun os started H enc _ => lifted os started H enc)

/-- The statement. -/
theorem proved : Rows.FreelistFollowsSaid :=
  over
#print axioms proved
end Go.Proofs.Ytnakmajnljpblaa.freelistFollows
