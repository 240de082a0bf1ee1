/-
  Proved: the main theorem of the layer: under every schedule of pops and pushes of four threads, every block is either in exactly one list, the one of its class, or held by exactly one thread; none is lost or doubled. No condition.
-/
import Derived.Test.YtpnkjdamgkaonaaRows
import Derived.WalkKit
import Derived.ProofKit
import Derived.OpenShut
import Derived.Test.YtpnkjdamgkaonaaFrame
import Derived.Test.YtpnkjdamgkaonaaFreK
import Derived.Deep.RegionHeld3
import Derived.Deep.RegionLaw
import Derived.Deep.Cut
import Derived.Deep.DeepCutAuto
import Derived.Deep.CutBlock
namespace Go.Proofs.Ytpnkjdamgkaonaa.freelistKeeps
open Go.ChangeShapes Go.WideShapes Go.ChangeAt Go.RowKit
open LawFrame
open Go.ChangeMaps (open_string)
set_option linter.unusedVariables false

theorem own : ownKnob Try.prog.godebug = none := by kernel_rfl
theorem laidOut : laidOutB Try.prog = true := by kernel_rfl
theorem cells3 : Try.prog.cellsOf 3 = 1 := by kernel_rfl

open PlainT BlkW LayS LayA LayH LayK LayP CelS CelM CelP CelV CelN CelO CelI CelY CelQ LabD LabR LabP LabS LabT FreP FreQ FreV FreC FreI FreA FreB FreS FreW FreL FreT FreK
set_option maxHeartbeats 4000000
set_option maxRecDepth 100000
abbrev TAp : TypeId := 67
def ppv : Th → Value
  | .pop g _ _ _ _ => .pointer (some ⟨g, 0, none⟩)
  | _ => .pointer none
abbrev A4 (f : Nat → Value) : Array Value := #[f 0, f 1, f 2, f 3]
theorem A4_set (f : Nat → Value) {t : Nat} (ht : t ≤ 3) (v : Value) : (A4 f).setIfInBounds t v = A4 (up f t v) := by
  rcases four ht with rfl | rfl | rfl | rfl <;> simp [A4, up]
theorem A4_congr {f f' : Nat → Value} (h : ∀ u, u ≤ 3 → f u = f' u) : A4 f = A4 f' := by
  simp only [A4, h 0 (by omega), h 1 (by omega), h 2 (by omega), h 3 (by omega)]
structure KA (w0 : World) (lo hi b rb gp ga gb gi : Nat) (K : Int) (T : Nat → Int) (L : Nat → List Nat) (N : List Int) (held hs : List Nat) (p : Nat → Th) (fa fb : Nat → Value) (zs : Nat → Int) (hv : Value) (W : World) : Prop where
  core : Core w0 lo hi b rb false (gi + 1) K T L N held p W
  pm : Mem W gp TP #[.pointer (some ⟨b, 0, none⟩), .pointer (some ⟨rb, 0, none⟩)]
  ap : Mem W ga TAp (A4 fa)
  aq : Mem W gb TAq (A4 fb)
  ai : Mem W gi TA4 (A4 fun u => .int .i64 (zs u))
  ho : OwnQ W (gi + 1) hv (hs.map fun b : Nat => (b : Int))
  od : w0.heap.size ≤ lo ∧ lo ≤ hi ∧ hi ≤ gp ∧ gp < ga ∧ ga < gb ∧ gb < gi
structure KS (w0 : World) (lo hi b rb gp ga gb gi : Nat) (K : Int) (T : Nat → Int) (L : Nat → List Nat) (N : List Int) (held : List Nat) (p : Nat → Th) (zs : Nat → Int) (hv : Value) (W : World) : Prop where
  ka : KA w0 lo hi b rb gp ga gb gi K T L N held held p (fun u => ppv (p u)) (fun u => pqv (p u)) zs hv W
  zz : ∀ t, t ≤ 3 → ∀ g st c bk x, p t = .push g st c bk x → zs t = bk
  lv : ∀ t, t ≤ 3 → ∀ g st c x n, p t = .pop g st c x n → st ≤ 2
  hl : (held.length : Int) ≤ K
section
variable {w0 W W' : World} {lo hi b rb gp ga gb gi t : Nat} {K K' : Int} {T T' : Nat → Int} {L L' : Nat → List Nat} {N N' : List Int} {held held' hs hs' : List Nat} {p p' : Nat → Th} {fa fb : Nat → Value} {zs : Nat → Int} {hv hv' : Value} {P : Nat → Prop}
theorem KA.gi_lt (h : KA w0 lo hi b rb gp ga gb gi K T L N held hs p fa fb zs hv W) : gi < W.heap.size := h.ai.lt
/-- A machine's step. -/
theorem KA.step (h : KA w0 lo hi b rb gp ga gb gi K T L N held hs p fa fb zs hv W) (k : Fr P W W') (hP : ∀ x, P x → (lo ≤ x ∧ x < hi) ∨ (gi < x ∧ ¬ PQ (gi + 1) W x)) (hC : Core w0 lo hi b rb false (gi + 1) K' T' L' N' held' p' W') : KA w0 lo hi b rb gp ga gb gi K' T' L' N' held' hs p' fa fb zs hv W' := by
  have hod := h.od
  exact ⟨hC, mem_fr h.pm k (fun x => by have := hP _ x; omega), mem_fr h.ap k (fun x => by have := hP _ x; omega), mem_fr h.aq k (fun x => by have := hP _ x; omega), mem_fr h.ai k (fun x => by have := hP _ x; omega), h.ho.fr k (fun g hg hx => by
    rcases hP g hx with h1 | h1
    · have := hg.1; omega
    · exact h1.2 hg), hod⟩
theorem KA.below (h : KA w0 lo hi b rb gp ga gb gi K T L N held hs p fa fb zs hv W) (k : Below W.heap.size W W') : KA w0 lo hi b rb gp ga gb gi K T L N held hs p fa fb zs hv W' :=
  h.step (P := fun _ => False) (Fr.of_below k) (fun _ x => x.elim) (h.core.below k)
theorem KA.setA (h : KA w0 lo hi b rb gp ga gb gi K T L N held hs p fa fb zs hv W) (ht : t ≤ 3) (v : Value) : KA w0 lo hi b rb gp ga gb gi K T L N held hs p (up fa t v) fb zs hv (W.setCell ⟨ga, t, none⟩ v) := by
  have hod := h.od
  have hF := (Fr.refl (fun x => x = ga) W).set_ ⟨ga, t, none⟩ (.inl rfl) v
  exact ⟨h.core.side hF (fun x e => by omega), h.pm.far (by show gp ≠ ga; omega) v, by rw [← A4_set fa ht]; exact h.ap.set_ t v, h.aq.far (by show gb ≠ ga; omega) v, h.ai.far (by show gi ≠ ga; omega) v, h.ho.fr hF (fun g hg e => by have := hg.1; omega), hod⟩
theorem KA.setB (h : KA w0 lo hi b rb gp ga gb gi K T L N held hs p fa fb zs hv W) (ht : t ≤ 3) (v : Value) : KA w0 lo hi b rb gp ga gb gi K T L N held hs p fa (up fb t v) zs hv (W.setCell ⟨gb, t, none⟩ v) := by
  have hod := h.od
  have hF := (Fr.refl (fun x => x = gb) W).set_ ⟨gb, t, none⟩ (.inl rfl) v
  exact ⟨h.core.side hF (fun x e => by omega), h.pm.far (by show gp ≠ gb; omega) v, h.ap.far (by show ga ≠ gb; omega) v, by rw [← A4_set fb ht]; exact h.aq.set_ t v, h.ai.far (by show gi ≠ gb; omega) v, h.ho.fr hF (fun g hg e => by have := hg.1; omega), hod⟩
theorem KA.setI (h : KA w0 lo hi b rb gp ga gb gi K T L N held hs p fa fb zs hv W) (ht : t ≤ 3) (z : Int) : KA w0 lo hi b rb gp ga gb gi K T L N held hs p fa fb (up zs t z) hv (W.setCell ⟨gi, t, none⟩ (.int .i64 z)) := by
  have hod := h.od
  have hF := (Fr.refl (fun x => x = gi) W).set_ ⟨gi, t, none⟩ (.inl rfl) (.int .i64 z)
  refine ⟨h.core.side hF (fun x e => by omega), h.pm.far (by show gp ≠ gi; omega) _, h.ap.far (by show ga ≠ gi; omega) _, h.aq.far (by show gb ≠ gi; omega) _, ?_, h.ho.fr hF (fun g hg e => by have := hg.1; omega), hod⟩
  have e : A4 (fun u => Value.int .i64 (up zs t z u)) = A4 (up (fun u => Value.int .i64 (zs u)) t (.int .i64 z)) := A4_congr fun u _ => by
    by_cases e : u = t
    · subst e
      rw [up_at, up_at]
    · rw [up_ne e, up_ne e]
  rw [e, ← A4_set _ ht]
  exact h.ai.set_ t (.int .i64 z)
/-- A block is put behind the held ones. -/
theorem KA.more (h : KA w0 lo hi b rb gp ga gb gi K T L N held hs p fa fb zs hv W) (k : Fr (PQ (gi + 1) W) W W') (ho : OwnQ W' (gi + 1) hv' (hs'.map fun b : Nat => (b : Int))) (hm : ∀ t g, t ≤ 3 → gOf (p t) = some g → ¬ PQ (gi + 1) W g) : KA w0 lo hi b rb gp ga gb gi K T L N held hs' p fa fb zs hv' W' := by
  have hod := h.od
  exact ⟨h.core.fr k (fun g h1 h2 h3 => by have := h3.1; omega) (fun g h3 => by have := h3.1; omega) hm, mem_fr h.pm k (fun x => by have := x.1; omega), mem_fr h.ap k (fun x => by have := x.1; omega), mem_fr h.aq k (fun x => by have := x.1; omega), mem_fr h.ai k (fun x => by have := x.1; omega), ho, hod⟩
theorem mbox_pq {o : Th} {g B : Nat} (h : mbox W o) (hg : gOf o = some g) : ¬ PQ B W g := by
  cases o with
  | idle => cases hg
  | pop g' st c x n =>
    obtain ⟨_, bl, _, hm⟩ := h
    injection hg with hg
    subst hg
    exact not_pq hm (by decide)
  | push g' st c bk x =>
    injection hg with hg
    subst hg
    exact not_pq h.2 (by decide)
theorem KA.own (h : KA w0 lo hi b rb gp ga gb gi K T L N held hs p fa fb zs hv W) (ho : OwnQ W (gi + 1) hv' (hs'.map fun b : Nat => (b : Int))) : KA w0 lo hi b rb gp ga gb gi K T L N held hs' p fa fb zs hv' W := ⟨h.core, h.pm, h.ap, h.aq, h.ai, ho, h.od⟩
theorem KA.congr {fa' fb' : Nat → Value} (h : KA w0 lo hi b rb gp ga gb gi K T L N held hs p fa fb zs hv W) (ha : ∀ u, u ≤ 3 → fa u = fa' u) (hb : ∀ u, u ≤ 3 → fb u = fb' u) : KA w0 lo hi b rb gp ga gb gi K T L N held hs p fa' fb' zs hv W :=
  ⟨h.core, h.pm, A4_congr ha ▸ h.ap, A4_congr hb ▸ h.aq, h.ai, h.ho, h.od⟩
end
theorem fup {f : Th → Value} {p : Nat → Th} {t u : Nat} {o : Th} {v : Value} (h : f o = v) : up (fun u => f (p u)) t v u = f (up p t o u) := by
  by_cases e : u = t
  · subst e
    rw [up_at, up_at, h]
  · rw [up_ne e, up_ne e]
theorem fsame {f : Th → Value} {p : Nat → Th} {t u : Nat} {o : Th} (h : f o = f (p t)) : f (p u) = f (up p t o u) := by
  by_cases e : u = t
  · subst e
    rw [up_at, h]
  · rw [up_ne e]
theorem zz_up {p : Nat → Th} {zs : Nat → Int} {t : Nat} {o : Th} (h : ∀ t, t ≤ 3 → ∀ g st c bk x, p t = .push g st c bk x → zs t = bk) (ho : ∀ g st c bk x, o = .push g st c bk x → zs t = bk) : ∀ u, u ≤ 3 → ∀ g st c bk x, up p t o u = .push g st c bk x → zs u = bk := by
  intro u hu g st c bk x hq
  by_cases e : u = t
  · subst e
    rw [up_at] at hq
    exact ho g st c bk x hq
  · rw [up_ne e] at hq
    exact h u hu g st c bk x hq
theorem lv_up {p : Nat → Th} {t : Nat} {o : Th} (h : ∀ t, t ≤ 3 → ∀ g st c x n, p t = .pop g st c x n → st ≤ 2) (ho : ∀ g st c x n, o = .pop g st c x n → st ≤ 2) : ∀ u, u ≤ 3 → ∀ g st c x n, up p t o u = .pop g st c x n → st ≤ 2 := by
  intro u hu g st c x n hq
  by_cases e : u = t
  · subst e
    rw [up_at] at hq
    exact ho g st c x n hq
  · rw [up_ne e] at hq
    exact h u hu g st c x n hq
theorem f_image46 {w0 w : World} {lo hi b rb : Nat} {T : Nat → Int} {L : Nat → List Nat} {N : List Int} (h : Fl w0 lo hi b rb false T L N w) (h6 : N.length = 6) : Calls Try.prog 30 #[.pointer (some ⟨b, 0, none⟩)] w fun e w' =>
    ∃ (a1 a2 a3 a4 a5 : Option Addr) (n1 n2 n3 k1 k2 k3 k4 k5 : Nat) (c t s : Int), e = .returned (imgV (.slice a1 n1 k1) (.slice a2 n2 k2) c t s (.slice a3 n3 k3) (.slice a4 4 k4) (.slice a5 6 k5)) ∧
      Rd w' (.slice a4 4 k4) (hds T L) ∧ Rd w' (.slice a5 6 k5) N ∧ Fl w0 lo hi b rb false T L N w' ∧ Stay lo hi w w' := by
  refine (f_image (Fx.of_fl h)).mono ?_
  rintro e w' ⟨a1, a2, a3, a4, a5, n1, n2, n3, k1, k2, k3, k4, k5, c, t, s, he, o4, o5, hS, hT⟩
  have o4 := rd_own o4
  have o5 := rd_own o5
  rw [h6] at he o5
  rw [show (hds T L).length = 4 from rfl] at he o4
  refine ⟨a1, a2, a3, a4, a5, n1, n2, n3, k1, k2, k3, k4, k5, c, t, s, he, o4, o5, ?_, hT⟩
  obtain ⟨⟨A, B, h1, h2, h3, h4, h5, h6⟩, h8, h9⟩ := hS
  exact ⟨⟨A, B, h1, h2, h3, h4, h5, h6, fun h => by cases h⟩, h8, h9⟩
theorem core_cells {w0 w w' : World} {lo hi b rb bs : Nat} {K : Int} {T : Nat → Int} {L : Nat → List Nat} {N : List Int} {held : List Nat} {p : Nat → Th} (h : Core w0 lo hi b rb false bs K T L N held p w) (k : Stay lo hi w w') (hfl : Fl w0 lo hi b rb false T L N w') : Core w0 lo hi b rb false bs K T L N held p w' :=
  ⟨hfl, h.inv, h.hb, fun t ht => mbox_fr (P := PI lo hi) (h.en t ht) (Fr.of_stay k fun x a c => ⟨a, c⟩) (fun g hg hx => by have := h.gb t g ht hg; have := h.hb; unfold PI at hx; omega), h.gb, h.di⟩
theorem core_more {w0 w : World} {lo hi b rb bs : Nat} {tw : Bool} {K K' : Int} {T : Nat → Int} {L : Nat → List Nat} {N : List Int} {held : List Nat} {p : Nat → Th} (h : Core w0 lo hi b rb tw bs K T L N held p w) (hk : K ≤ K') : Core w0 lo hi b rb tw bs K' T L N held p w := ⟨h.fl, h.inv.more hk, h.hb, h.en, h.gb, h.di⟩

theorem readable : ∀ t ∈ Try.f5.params.toList, Try.prog.readableRec t = true ∧ t < Try.prog.types.size := by
  have h : (Try.f5.params.toList.all fun t => Try.prog.readableRec t && decide (t < Try.prog.types.size)) = true := by kernel_rfl
  intro t ht
  have := List.all_eq_true.1 h t ht
  simpa using this

/-! The walk. -/
theorem walk (w : World) (A0 : Option Addr) (n0 c0 : Nat) (z0 : List Int) (l0 : n0 ≤ c0) (m0 : c0 ≤ maxLen) (s0 : Ints .i64 w A0 n0 z0) (A1 : Option Addr) (n1 c1 : Nat) (z1 : List Int) (l1 : n1 ≤ c1) (m1 : c1 ≤ maxLen) (s1 : Ints .i64 w A1 n1 z1) :
    Calls Try.prog 5 #[.slice A0 n0 c0, .slice A1 n1 c1] w fun e w' => e = .returned (.bool true) ∧ Kept w w' := by
  have HZ0 := Lib.hid s0
  have HZ1 := Lib.hid s1
  clear s0 s1
  go_enter Try.func5, Try.ntmps5
  by_cases hbig : (90 : Int) < n1
  · go_wp2_with fail
    refine (FreL.l_awake _).mono ?_
    rintro e w3 ⟨rfl, hb1⟩
    have HB1 := Lib.hid hb1
    clear hb1
    go_wp2
    go_ret
    exact ⟨rfl, .of_below HB1.out⟩
  · have hn80 : (n1 : Int) ≤ 90 := by omega
    clear hbig
    go_upto_region 6 with (first | (go_at_call 14; refine (l_heap _).mono ?_; rintro e w0 ⟨rfl, hb0⟩; have HB0 := Lib.hid hb0) | (go_at_call 13; refine (l_startn hq (Lib.hid hq_valid) 4 (by decide) (by decide) _).mono ?_; rintro e w1 ⟨A, lo, hi, b, rb, rfl, hst⟩))
    have S0 : Hid (Fl w0 lo hi b rb false T0 L0 N0 w1) := Lib.hid (by obtain ⟨⟨A, B, h1, h2, h3, h4, h5, h6, h7⟩, h8, h9⟩ := fl_begun hst; exact ⟨⟨A, B, h1, h2, h3, h4, h5, h6, fun h => by cases h⟩, h8, h9⟩)
    have hlo := S0.out.lo
    have hle := S0.out.le
    have htop := S0.out.top
    clear hst hb0
    go_upto_region 9 with (fail)
    have HG : Hid (KS w0 lo hi b rb w1.heap.size (w1.heap.size + 1) (w1.heap.size + 1 + 1) (w1.heap.size + 1 + 1 + 1) 0 T0 L0 N0 [] (fun _ => .idle) (fun _ => 0) (.slice none 0 0) ((((w1.alloc (.cells #[.pointer (some ⟨b, 0, none⟩), .pointer (some ⟨rb, 0, none⟩)] TP)).alloc (.cells #[.pointer none, .pointer none, .pointer none, .pointer none] TAp)).alloc (.cells #[.pointer none, .pointer none, .pointer none, .pointer none] TAq)).alloc (.cells #[.int .i64 0, .int .i64 0, .int .i64 0, .int .i64 0] TA4))) := Lib.hid (by
      have hs3 : (((w1.alloc (.cells #[.pointer (some ⟨b, 0, none⟩), .pointer (some ⟨rb, 0, none⟩)] TP)).alloc (.cells #[.pointer none, .pointer none, .pointer none, .pointer none] TAp)).alloc (.cells #[.pointer none, .pointer none, .pointer none, .pointer none] TAq)).heap.size = w1.heap.size + 3 := by rw [size_new, size_new, size_new]
      have M4 := Mem.new (((w1.alloc (.cells #[.pointer (some ⟨b, 0, none⟩), .pointer (some ⟨rb, 0, none⟩)] TP)).alloc (.cells #[.pointer none, .pointer none, .pointer none, .pointer none] TAp)).alloc (.cells #[.pointer none, .pointer none, .pointer none, .pointer none] TAq)) TA4 #[.int .i64 0, .int .i64 0, .int .i64 0, .int .i64 0]
      rw [hs3] at M4
      exact ⟨⟨⟨(((S0.out.alloc _).alloc _).alloc _).alloc _, inv0, by omega, fun _ _ => trivial, fun t g _ h => (by cases h), fun t u g _ _ _ h => (by cases h)⟩, (((Mem.new w1 TP #[.pointer (some ⟨b, 0, none⟩), .pointer (some ⟨rb, 0, none⟩)]).alloc _).alloc _).alloc _, ((mem_new1 w1 (.cells #[.pointer (some ⟨b, 0, none⟩), .pointer (some ⟨rb, 0, none⟩)] TP) TAp #[.pointer none, .pointer none, .pointer none, .pointer none]).alloc _).alloc _, (mem_new2 w1 (.cells #[.pointer (some ⟨b, 0, none⟩), .pointer (some ⟨rb, 0, none⟩)] TP) (.cells #[.pointer none, .pointer none, .pointer none, .pointer none] TAp) TAq #[.pointer none, .pointer none, .pointer none, .pointer none]).alloc _, M4, ownq_nil _ _, by omega⟩, fun t _ g st c bk x h => (by cases h), fun t _ g st c x n h => (by cases h), by simp⟩)
    obtain ⟨gp, hgp⟩ : ∃ gp, w1.heap.size = gp := ⟨_, rfl⟩
    obtain ⟨ga, hga⟩ : ∃ ga, gp + 1 = ga := ⟨_, rfl⟩
    obtain ⟨gb, hgb⟩ : ∃ gb, ga + 1 = gb := ⟨_, rfl⟩
    obtain ⟨gi, hgi⟩ : ∃ gi, gb + 1 = gi := ⟨_, rfl⟩
    rw [hgp, hga, hgb, hgi] at HG
    first | rw [hgp] | skip
    first | rw [hga] | skip
    first | rw [hgb] | skip
    first | rw [hgi] | skip
    obtain ⟨W1, hW⟩ : ∃ W', (((w1.alloc (.cells #[.pointer (some ⟨b, 0, none⟩), .pointer (some ⟨rb, 0, none⟩)] TP)).alloc (.cells #[.pointer none, .pointer none, .pointer none, .pointer none] TAp)).alloc (.cells #[.pointer none, .pointer none, .pointer none, .pointer none] TAq)).alloc (.cells #[.int .i64 0, .int .i64 0, .int .i64 0, .int .i64 0] TA4) = W' := ⟨_, rfl⟩
    rw [hW] at HG
    first | rw [hW] | skip
    clear hW hgp hga hgb hgi S0 htop
    go_wp2_with fail
    go_loopw [10, 11, 12] (fun hv nv iv wr => ∃ (i nn : Nat) (T : Nat → Int) (L : Nat → List Nat) (N : List Int) (held : List Nat) (p : Nat → Th) (zs : Nat → Int), iv = .int .i64 i ∧ nv = .int .i64 nn ∧ nn ≤ i ∧ i ≤ n1 ∧ (∃ Ah ch, hv = .slice Ah held.length ch) ∧ KS w0 lo hi b rb gp ga gb gi i T L N held p zs hv wr) (fun _ _ iv _ => n1 - (intOf iv).toNat)
    case atStart => exact ⟨0, 0, T0, L0, N0, [], _, _, rfl, rfl, by omega, by omega, ⟨_, _, rfl⟩, HG.out⟩
    case round =>
      clear HG
      obtain ⟨i, nn, T, L, N, held, p, zs, rfl, rfl, hni, hi1, ⟨Ah, ch, rfl⟩, hks⟩ := hrel
      have HG := Lib.hid hks
      clear hks
      by_cases hlt : i < n1
      · have hltI : (i : Int) < n1 := by omega
        obtain ⟨tb, toff, tx, rfl, htb, htc⟩ := iat HZ1.out (below_trans2 HB0.out HG.out.ka.core.fl.old) hlt
        obtain ⟨t, ht⟩ : ∃ t : Nat, pl tx 4 = t := ⟨(pl tx 4).toNat, by have := pl_in tx 4 (by decide) (by decide); omega⟩
        have ht4 : (t : Int) < 4 := by have := pl_in tx 4 (by decide) (by decide); omega
        have t3 : t ≤ 3 := by omega
        have hpl := k_place tx 4 t (by decide) (by decide) ht
        go_upto_block 2 with (go_at_call 15; (with_reducible refine (hpl _).mono ?_); rintro e w9 ⟨rfl, rfl⟩)
        have hod := HG.out.ka.od
        have hap : wr.cell? ⟨ga, t, none⟩ = some (ppv (p t)) := arr_at (f := fun u => ppv (p u)) HG.out.ka.ap t3
        have haq : wr.cell? ⟨gb, t, none⟩ = some (pqv (p t)) := arr_at (f := fun u => pqv (p u)) HG.out.ka.aq t3
        have hpm : wr.cell? ⟨gp, 0, none⟩ = some (.pointer (some ⟨b, 0, none⟩)) := HG.out.ka.pm.cell 0
        clear hpl ht
        go_cut [10, 11] (fun hv nv wc => ∃ (nn : Nat) (T : Nat → Int) (L : Nat → List Nat) (N : List Int) (held : List Nat) (p : Nat → Th) (zs : Nat → Int), nv = .int .i64 nn ∧ nn ≤ i + 1 ∧ (∃ Ah ch, hv = .slice Ah held.length ch) ∧ Hid (KS w0 lo hi b rb gp ga gb gi (i + 1) T L N held p zs hv wc))
        case first =>
          rcases ho : p t with _ | ⟨g, st, c, x, n⟩ | ⟨g, st, c, bk, x⟩
          · rw [ho] at haq hap
            have haq2 : wr.cell? ⟨gb, t, none⟩ = some (.pointer none) := haq
            have hap2 : wr.cell? ⟨ga, t, none⟩ = some (.pointer none) := hap
            clear haq hap hpm
            have hsz := HG.out.ka.ai.lt
            have hfa := HG.out.ka.ap.frozen t
            have hfb := HG.out.ka.aq.frozen t
            obtain ⟨q4, hq4⟩ : ∃ q4, IntKind.i64.wrap (tx.tdiv 4) = q4 := ⟨_, rfl⟩
            obtain ⟨m2, hm2⟩ : ∃ m2, pl q4 2 = m2 := ⟨_, rfl⟩
            have hpl2 := k_place q4 2 m2 (by decide) (by decide) hm2
            clear hm2
            by_cases hC1 : held ≠ [] ∧ m2 = 0
            · obtain ⟨hne, rfl⟩ := hC1
              obtain ⟨b0, held', rfl⟩ := List.exists_cons_of_ne_nil hne
              have hpos : (0 : Int) < ((b0 :: held').length : Nat) := by rw [List.length_cons]; omega
              obtain ⟨g9, off, cap9, e9, hB9, hlt9, hc9⟩ := HG.out.ka.ho.cell (by simp)
              injection e9 with e9 e10 e11
              subst e9 e11
              clear e10
              have hcw := hc9 0 b0 (by simp)
              rw [Nat.add_zero] at hcw
              clear hc9
              have hci : wr.cell? ⟨gi, t, none⟩ = some (.int .i64 (zs t)) := arr_at (f := fun u => .int .i64 (zs u)) HG.out.ka.ai t3
              have hfi := HG.out.ka.ai.frozen t
              go_upto_region 32 with (first | (go_at_call 15; (with_reducible refine (hpl2 _).mono ?_); rintro e w11 ⟨rfl, rfl⟩))
              have HA1 := Lib.hid (HG.out.ka.setI t3 b0)
              obtain ⟨W1, hW1⟩ : ∃ W1, wr.setCell ⟨gi, t, none⟩ (.int .i64 b0) = W1 := ⟨_, rfl⟩
              have hcw1 : W1.cell? ⟨g9, off, none⟩ = some (.int .i64 b0) := by
                rw [← hW1]
                exact (World.cell?_of_block (Below.heap_setCell wr ⟨gi, t, none⟩ _ g9 (by show g9 ≠ gi; omega))).trans hcw
              have hlt1 : g9 < W1.heap.size := World.block_lt_of_cell? _ _ hcw1
              have hb6 := HG.out.ka.core.inv.hin b0 (by simp)
              have hcl : clsV hq b0 = (cl b0 : Int) := cl_of hb6
              have hcc : ∀ W, Calls Try.prog 16 #[cfgV hq, .int .i64 b0] W fun e w' => e = .returned (.int .i64 (cl b0)) ∧ Below W.heap.size W w' := fun W => by
                have h := LayF.r_class hq b0 W
                rw [hcl] at h
                exact h
              rw [hW1] at HA1
              first | rw [hW1] | skip
              clear hW1 hcw hci hfi hap2 hfa haq2 hfb hcl
              have hal := l_heap
              have haq3 : W1.cell? ⟨gb, t, none⟩ = some (.pointer none) := (arr_at (f := fun u => pqv (p u)) HA1.out.aq t3).trans (by rw [ho]; rfl)
              have hs0 : (fun W : World => W.cell? ⟨g9, off, none⟩ = some (.int .i64 b0)) W1.drew := hcw1
              have HAd := Lib.hid (HA1.out.below (below_drewN (Below.refl _ W1) 1))
              rw [show W1.drewN 1 = W1.drew from rfl] at HAd
              go_region_held3 (fun W : World => W.cell? ⟨g9, off, none⟩ = some (.int .i64 b0)) (first | (with_reducible exact hs0) | (with_reducible exact hq1) | (with_reducible exact hq2) | (with_reducible exact hq3) | (with_reducible exact hq6) | (with_reducible exact hq7) | (with_reducible assumption)) (first
                | (go_at_call 14; (with_reducible refine (hal _).mono ?_); rintro e x1 ⟨rfl, hx1⟩; have hq1 : x1.cell? ⟨g9, off, none⟩ = some (.int .i64 b0) := (World.cell?_of_block (hx1.block g9 hlt1)).trans hcw1)
                | (go_at_call 16; (with_reducible refine (hcc _).mono ?_); rintro e x2 ⟨rfl, hx2⟩; have hq2 : x2.cell? ⟨g9, off, none⟩ = some (.int .i64 b0) := (World.cell?_of_block (hx2.block g9 (Nat.lt_of_lt_of_le hlt1 hx1.size))).trans hq1)
                | (go_at_call 17; (with_reducible refine (u_new _ _ _).mono ?_); rintro e x3 ⟨rfl, rfl⟩; have hq3 : (x2.alloc (.cells #[.int .i64 0, .int .i64 (cl b0), .int .i64 b0, .int .u64 0] TP2)).cell? ⟨g9, off, none⟩ = some (.int .i64 b0) := (World.cell?_of_block ((below_new x2 _).block g9 (Nat.lt_of_lt_of_le (Nat.lt_of_lt_of_le hlt1 hx1.size) hx2.size))).trans hq2; have hqm : Mem (x2.alloc (.cells #[.int .i64 0, .int .i64 (cl b0), .int .i64 b0, .int .u64 0] TP2)) gb TAq (A4 fun u => pqv (p u)) := ((HAd.out.aq.below hx1 HAd.out.aq.lt).below hx2 (HAd.out.aq.below hx1 HAd.out.aq.lt).lt).alloc (.cells #[.int .i64 0, .int .i64 (cl b0), .int .i64 b0, .int .u64 0] TP2); have hq4 : (x2.alloc (.cells #[.int .i64 0, .int .i64 (cl b0), .int .i64 b0, .int .u64 0] TP2)).cell? ⟨gb, t, none⟩ = some (.pointer none) := (arr_at (f := fun u => pqv (p u)) hqm t3).trans (by rw [ho]; rfl); have hq5 := hqm.frozen t; have hq6 : ((x2.alloc (.cells #[.int .i64 0, .int .i64 (cl b0), .int .i64 b0, .int .u64 0] TP2)).setCell ⟨gb, t, none⟩ (.pointer (some ⟨x2.heap.size, 0, none⟩))).cell? ⟨g9, off, none⟩ = some (.int .i64 b0) := (World.cell?_of_block (Below.heap_setCell _ ⟨gb, t, none⟩ _ g9 (by show g9 ≠ gb; omega))).trans hq3; have hgbl : gb < x2.heap.size := (HAd.out.aq.below hx1 HAd.out.aq.lt).below hx2 (HAd.out.aq.below hx1 HAd.out.aq.lt).lt |>.lt; have hq7 := hq6; rw [World.setCell_alloc_past _ _ _ _ hgbl] at hq7))
              have hxx : Below W1.drew.heap.size W1.drew x2 := hx1.trans (hx2.mono hx1.size)
              have hb3 : Below W1.drew.heap.size W1.drew (x2.alloc (.cells #[.int .i64 0, .int .i64 (cl b0), .int .i64 b0, .int .u64 0] TP2)) := hxx.trans ((below_new x2 (.cells #[.int .i64 0, .int .i64 (cl b0), .int .i64 b0, .int .u64 0] TP2)).mono hxx.size)
              have HC2 := core_new (o := .push x2.heap.size 0 (cl b0) b0 0) HAd.out.core t3 hb3 (by have := HAd.out.ai.lt; omega) hxx.size rfl ⟨by omega, Mem.new x2 TP2 (uBox 0 (cl b0) b0 0)⟩ (HAd.out.core.inv.push t3 (by rw [ho]; rfl) x2.heap.size 0)
              have HA2 := (HAd.out.step (P := fun _ => False) (Fr.of_below hb3) (fun _ h => h.elim) (core_more HC2 (by omega : (i : Int) ≤ i + 1))).setB t3 (.pointer (some ⟨x2.heap.size, 0, none⟩))
              have hpt : ((x2.alloc (.cells #[.int .i64 0, .int .i64 (cl b0), .int .i64 b0, .int .u64 0] TP2)).setCell ⟨gb, t, none⟩ (.pointer (some ⟨x2.heap.size, 0, none⟩))).cell? ⟨gb, t, none⟩ = some (.pointer (some ⟨x2.heap.size, 0, none⟩)) := (arr_at HA2.aq t3).trans (by rw [up_at])
              rw [World.setCell_alloc_past _ _ _ _ hgbl] at HA2 hpt
              have HA3 := Lib.hid HA2
              have HZZ : Hid (∀ u, u ≤ 3 → ∀ g st c bk x, up p t (.push x2.heap.size 0 (cl b0) b0 0) u = .push g st c bk x → up zs t b0 u = bk) := Lib.hid fun u hu g st c bk x hq => by
                by_cases e : u = t
                · subst e
                  rw [up_at] at hq
                  rw [up_at]
                  injection hq with _ _ _ e4
                  rw [e4]
                · rw [up_ne e] at hq
                  rw [up_ne e]
                  exact HG.out.zz u hu g st c bk x hq
              have HLV := Lib.hid (lv_up (t := t) (o := .push x2.heap.size 0 (cl b0) b0 0) HG.out.lv (fun g' st2 c2 x2 n2 hq => by cases hq))
              have HHL : Hid ((held'.length : Int) ≤ i + 1) := Lib.hid (by have := HG.out.hl; rw [List.length_cons] at this; omega)
              have HT : ∀ A' c', (ch = 1 → c' = 0) → (ch ≠ 1 → A' = some ⟨g9, off + 1, none⟩ ∧ c' = ch - 1) → OwnQ _ (gi + 1) (.slice A' held'.length c') (held'.map fun b : Nat => (b : Int)) := fun A' c' h1 h2 => by
                have h := HA3.out.ho.tail A' (fun hc => by rw [(h2 hc).1]; rfl)
                have e : ch - 1 = c' := by
                  by_cases hc : ch = 1
                  · rw [h1 hc, hc]
                  · exact (h2 hc).2.symm
                rw [e] at h
                exact h
              have HTT := Lib.hid HT
              clear HG HA1 HAd HC2 HA2 HT hb3 hxx hx1 hx2 hq1 hq2 hq3 hq4 hq5 hq6 hq7 hqm hs0 hal hcc hcw1 hgbl
              go_wp2_with fail
              all_goals go_meet
              all_goals exact ⟨nn, _, _, _, held', _, _, rfl, by omega, ⟨_, _, rfl⟩, Lib.hid ⟨(HA3.out.own (HTT.out _ _ (fun h => by first | rfl | omega) (fun h => by first | exact ⟨rfl, rfl⟩ | (exact absurd rfl h) | (exact absurd (by assumption) h)))).congr (fun u _ => fsame (o := .push x2.heap.size 0 (cl b0) b0 0) (by rw [ho]; rfl)) (fun u _ => fup (o := .push x2.heap.size 0 (cl b0) b0 0) rfl), HZZ.out, HLV.out, HHL.out⟩⟩
            · have hcond : (∃ hz : held = [], True) ∨ ((0 : Int) < (held.length : Nat) ∧ (m2 == 0) = false) := by
                by_cases hz : held = []
                · exact .inl ⟨hz, trivial⟩
                · refine .inr ⟨by have := List.length_pos_iff.2 hz; omega, ?_⟩
                  simp
                  exact fun h => hC1 ⟨hz, h⟩
              clear hC1
              rcases hcond with ⟨rfl, _⟩ | ⟨hpos, hm⟩
              · have hB0 := below_trans2 HB0.out HG.out.ka.core.fl.old
                have hat := k_at c0 HZ0.out hB0 (nn + 1)
                rw [show ((nn + 1 : Nat) : Int) = (nn : Int) + 1 by omega] at hat
                have hfal : ∀ o, (wr.alloc o).cell? ⟨ga, t, none⟩ = some (.pointer none) := fun o => (World.cell?_of_block ((below_new wr o).block ga HG.out.ka.ap.lt)).trans hap2
                have hfaz : ∀ o, (wr.alloc o).frozen? ⟨ga, t, none⟩ = false := fun o => ((HG.out.ka.below (below_new wr o)).ap).frozen t
                have hgal := HG.out.ka.ap.lt
                clear hB0
                go_upto_region 17 with (first
                  | (go_at_call 19; (with_reducible refine hat.mono ?_); rintro e w9 ⟨v9, rfl, rfl⟩)
                  | (go_at_call 15; (with_reducible refine (k_place_ex v9 4 (by omega) (by omega) _).mono ?_); rintro e w9 ⟨u, u0, u1, rfl, rfl⟩)
                  | (go_at_call 20; (with_reducible refine (p_new u _).mono ?_); rintro e w10 ⟨rfl, rfl⟩; have hal := hfal (.cells #[.int .i64 0, .int .i64 u, .int .u64 0, .int .i64 0, .int .i64 (-1)] TP1); have haz := hfaz (.cells #[.int .i64 0, .int .i64 u, .int .u64 0, .int .i64 0, .int .i64 (-1)] TP1)))
                obtain ⟨cc, hcc⟩ : ∃ cc : Nat, u = cc := ⟨u.toNat, by omega⟩
                subst hcc
                have HC2 := core_new (o := .pop wr.heap.size 0 cc 0 0) HG.out.ka.core t3 (below_new wr (.cells #[.int .i64 0, .int .i64 cc, .int .u64 0, .int .i64 0, .int .i64 (-1)] TP1)) (by omega) (Nat.le_refl _) rfl ⟨by omega, -1, fun _ => rfl, Mem.new wr TP1 (oBox 0 cc 0 0 (-1))⟩ (HG.out.ka.core.inv.turn t3 (by rw [ho]; rfl) ⟨by omega, .inl (.inl rfl)⟩)
                have HA2 := (HG.out.ka.step (P := fun _ => False) (Fr.of_below (below_new wr (.cells #[.int .i64 0, .int .i64 cc, .int .u64 0, .int .i64 0, .int .i64 (-1)] TP1))) (fun _ h => h.elim) (core_more HC2 (by omega : (i : Int) ≤ i + 1))).setA t3 (.pointer (some ⟨wr.heap.size, 0, none⟩))
                have HG2 := Lib.hid (KS.mk (HA2.congr (fun u _ => fup rfl) (fun u _ => fsame (by rw [ho]; rfl))) (zz_up HG.out.zz (fun g' st2 c2 b2 x2 hq => by cases hq)) (lv_up HG.out.lv (fun g' st2 c2 x2 n2 hq => by injection hq with _ e2; omega)) (by have := HG.out.hl; omega))
                have hpt : ((wr.alloc (.cells #[.int .i64 0, .int .i64 cc, .int .u64 0, .int .i64 0, .int .i64 (-1)] TP1)).setCell ⟨ga, t, none⟩ (.pointer (some ⟨wr.heap.size, 0, none⟩))).cell? ⟨ga, t, none⟩ = some (.pointer (some ⟨wr.heap.size, 0, none⟩)) := (arr_at HA2.ap t3).trans (by rw [up_at])
                rw [World.setCell_alloc_past _ _ _ _ hgal] at HG2 hpt
                clear HG HC2 HA2 hal haz hfal hfaz hat hgal
                go_wp2_with fail
                all_goals go_meet
                all_goals exact ⟨nn + 1, _, _, _, _, _, _, by first | rfl | (congr 1; omega), by omega, ⟨_, _, rfl⟩, HG2⟩
              · have hB0 := below_trans2 HB0.out HG.out.ka.core.fl.old
                have hat := k_at c0 HZ0.out hB0 (nn + 1)
                rw [show ((nn + 1 : Nat) : Int) = (nn : Int) + 1 by omega] at hat
                have hfal : ∀ o, (wr.alloc o).cell? ⟨ga, t, none⟩ = some (.pointer none) := fun o => (World.cell?_of_block ((below_new wr o).block ga HG.out.ka.ap.lt)).trans hap2
                have hfaz : ∀ o, (wr.alloc o).frozen? ⟨ga, t, none⟩ = false := fun o => ((HG.out.ka.below (below_new wr o)).ap).frozen t
                have hgal := HG.out.ka.ap.lt
                clear hB0
                go_upto_region 17 with (first
                  | (go_at_call 15; (with_reducible refine (hpl2 _).mono ?_); rintro e w11 ⟨rfl, rfl⟩) | (go_at_call 19; (with_reducible refine hat.mono ?_); rintro e w9 ⟨v9, rfl, rfl⟩)
                  | (go_at_call 15; (with_reducible refine (k_place_ex v9 4 (by omega) (by omega) _).mono ?_); rintro e w9 ⟨u, u0, u1, rfl, rfl⟩)
                  | (go_at_call 20; (with_reducible refine (p_new u _).mono ?_); rintro e w10 ⟨rfl, rfl⟩; have hal := hfal (.cells #[.int .i64 0, .int .i64 u, .int .u64 0, .int .i64 0, .int .i64 (-1)] TP1); have haz := hfaz (.cells #[.int .i64 0, .int .i64 u, .int .u64 0, .int .i64 0, .int .i64 (-1)] TP1)))
                obtain ⟨cc, hcc⟩ : ∃ cc : Nat, u = cc := ⟨u.toNat, by omega⟩
                subst hcc
                have HC2 := core_new (o := .pop wr.heap.size 0 cc 0 0) HG.out.ka.core t3 (below_new wr (.cells #[.int .i64 0, .int .i64 cc, .int .u64 0, .int .i64 0, .int .i64 (-1)] TP1)) (by omega) (Nat.le_refl _) rfl ⟨by omega, -1, fun _ => rfl, Mem.new wr TP1 (oBox 0 cc 0 0 (-1))⟩ (HG.out.ka.core.inv.turn t3 (by rw [ho]; rfl) ⟨by omega, .inl (.inl rfl)⟩)
                have HA2 := (HG.out.ka.step (P := fun _ => False) (Fr.of_below (below_new wr (.cells #[.int .i64 0, .int .i64 cc, .int .u64 0, .int .i64 0, .int .i64 (-1)] TP1))) (fun _ h => h.elim) (core_more HC2 (by omega : (i : Int) ≤ i + 1))).setA t3 (.pointer (some ⟨wr.heap.size, 0, none⟩))
                have HG2 := Lib.hid (KS.mk (HA2.congr (fun u _ => fup rfl) (fun u _ => fsame (by rw [ho]; rfl))) (zz_up HG.out.zz (fun g' st2 c2 b2 x2 hq => by cases hq)) (lv_up HG.out.lv (fun g' st2 c2 x2 n2 hq => by injection hq with _ e2; omega)) (by have := HG.out.hl; omega))
                have hpt : ((wr.alloc (.cells #[.int .i64 0, .int .i64 cc, .int .u64 0, .int .i64 0, .int .i64 (-1)] TP1)).setCell ⟨ga, t, none⟩ (.pointer (some ⟨wr.heap.size, 0, none⟩))).cell? ⟨ga, t, none⟩ = some (.pointer (some ⟨wr.heap.size, 0, none⟩)) := (arr_at HA2.ap t3).trans (by rw [up_at])
                rw [World.setCell_alloc_past _ _ _ _ hgal] at HG2 hpt
                clear HG HC2 HA2 hal haz hfal hfaz hat hgal
                go_wp2_with fail
                all_goals go_meet
                all_goals exact ⟨nn + 1, _, _, _, _, _, _, by first | rfl | (congr 1; omega), by omega, ⟨_, _, rfl⟩, HG2⟩
          · rw [ho] at haq hap
            have haq2 : wr.cell? ⟨gb, t, none⟩ = some (.pointer none) := haq
            have hap2 : wr.cell? ⟨ga, t, none⟩ = some (.pointer (some ⟨g, 0, none⟩)) := hap
            clear haq hap
            have hc := core_pop (HG.out.ka.core.drewN 1) (by omega) hlo hle t3 ho (HG.out.lv t t3 _ _ _ _ _ ho)
            rw [show wr.drewN 1 = wr.drew from rfl] at hc
            have hgg := HG.out.ka.core.gb t g t3 (by rw [ho]; rfl)
            have hs0 : (fun W : World => W.cell? ⟨ga, t, none⟩ = some (.pointer (some ⟨g, 0, none⟩)) ∧ W.cell? ⟨gp, 0, none⟩ = some (.pointer (some ⟨b, 0, none⟩))) wr.drew := ⟨hap2, hpm⟩
            have HA1 := Lib.hid (HG.out.ka.below (below_drewN (Below.refl _ wr) 1))
            rw [show wr.drewN 1 = wr.drew from rfl] at HA1
            go_upto_region 24 with (fail)
            go_region_held3 (fun W : World => W.cell? ⟨ga, t, none⟩ = some (.pointer (some ⟨g, 0, none⟩)) ∧ W.cell? ⟨gp, 0, none⟩ = some (.pointer (some ⟨b, 0, none⟩))) (first | (with_reducible exact hs0) | (with_reducible exact ⟨hk1, hk2⟩) | (with_reducible assumption)) (first
              | (go_at_call 22; (with_reducible refine hc.mono ?_); rintro e w5 ⟨k1, k2, k3, k4, k5, d, st', x', n', bl', T', L', held', p', rfl, hF, hM, hC, hO⟩; have hk1 : w5.cell? ⟨ga, t, none⟩ = some (.pointer (some ⟨g, 0, none⟩)) := (World.cell?_of_block (hF.block ga HA1.out.ap.lt (by unfold PG; omega))).trans hap2; have hk2 : w5.cell? ⟨gp, 0, none⟩ = some (.pointer (some ⟨b, 0, none⟩)) := (World.cell?_of_block (hF.block gp HA1.out.pm.lt (by unfold PG; omega))).trans hpm))
            have hPQ : ∀ x, PG lo hi g x → (lo ≤ x ∧ x < hi) ∨ (gi < x ∧ ¬ PQ (gi + 1) wr.drew x) := fun x hx => by
              unfold PG at hx
              rcases hx with hx | rfl
              · exact .inl hx
              · exact .inr ⟨by omega, mbox_pq (HA1.out.core.en t t3) (by rw [ho]; rfl)⟩
            have HA2 := Lib.hid (HA1.out.step hF hPQ hC)
            have hdn := p_done g _ _ _ _ _ w5 hM
            have hbk := p_block g _ _ _ _ _ w5 hM
            have hfz := HA2.out.ap.frozen t
            clear hc hF hC hPQ HA1 hs0 hpm hap2 haq2
            rcases hO with ⟨h1, h2, rfl, rfl, rfl, rfl, _⟩ | ⟨h1, h2, _, rfl, rfl, rfl, rfl, _⟩ | ⟨h1, l, blk, _, h2, rfl, rfl, rfl, rfl, _⟩
            · have hst : ((st' : Int) == 3) = false := by simp; omega
              rw [hst] at hdn
              have HG2 : Hid (KS w0 lo hi b rb gp ga gb gi (i + 1) T' L' N held' (up p t (.pop g st' c x' n')) zs _ w5) := Lib.hid ⟨HA2.out.congr (fun u _ => fsame (by rw [ho]; rfl)) (fun u _ => fsame (by rw [ho]; rfl)), zz_up HG.out.zz (fun g' st2 c2 b2 x2 hq => by cases hq), lv_up HG.out.lv (fun g' st2 c2 x2 n2 hq => by injection hq with _ e2; omega), by have := HG.out.hl; omega⟩
              clear HG HA2 hM hbk
              go_wp2_with (go_at_call 24; (with_reducible refine hdn.mono ?_); rintro e w6 ⟨rfl, rfl⟩)
              all_goals go_meet
              all_goals exact ⟨nn, _, _, _, _, _, _, rfl, by omega, ⟨_, _, rfl⟩, HG2⟩
            · subst h1
              subst h2
              have hst : (((3 : Nat) : Int) == 3) = true := by decide
              rw [hst] at hdn
              have HG2 : Hid (KS w0 lo hi b rb gp ga gb gi (i + 1) T' L' N held' (up p t .idle) zs (.slice Ah held'.length ch) (w5.setCell ⟨ga, t, none⟩ (.pointer none))) := Lib.hid ⟨(HA2.out.setA t3 (.pointer none)).congr (fun u _ => fup rfl) (fun u _ => fsame (by rw [ho]; rfl)), zz_up HG.out.zz (fun g' st2 c2 b2 x2 hq => by cases hq), lv_up HG.out.lv (fun g' st2 c2 x2 n2 hq => by cases hq), by have := HG.out.hl; omega⟩
              clear HG HA2 hM
              go_wp2_with (first | (go_at_call 24; (with_reducible refine hdn.mono ?_); rintro e w6 ⟨rfl, rfl⟩) | (go_at_call 25; (with_reducible refine hbk.mono ?_); rintro e w7 ⟨rfl, rfl⟩))
              all_goals go_meet
              all_goals exact ⟨nn, _, _, _, _, _, _, rfl, by omega, ⟨_, _, rfl⟩, HG2⟩
            · subst h1
              subst h2
              have hst : (((3 : Nat) : Int) == 3) = true := by decide
              rw [hst] at hdn
              have hbp : (0 : Int) ≤ (blk : Int) := by omega
              obtain ⟨A2, c2', w8, hrun, ho8, hF8⟩ := push_q (w := w5) (B := gi + 1) (by have := HA2.out.ai.lt; omega) HA2.out.ho (by have := HG.out.hl; rw [List.length_map]; omega) blk
              rw [List.length_map] at hrun ho8
              have HA3 := Lib.hid (HA2.out.more (hs' := held ++ [blk]) hF8 (by rw [List.map_append]; exact ho8) (fun u g' hu hg => mbox_pq (HA2.out.core.en u hu) hg))
              have hk3 : w8.cell? ⟨ga, t, none⟩ = some (.pointer (some ⟨g, 0, none⟩)) := (World.cell?_of_block (hF8.block ga HA2.out.ap.lt (fun x => by have := x.1; omega))).trans hk1
              have hfz8 := HA3.out.ap.frozen t
              have HG2 : Hid (KS w0 lo hi b rb gp ga gb gi (i + 1) (up T c (T c + 1)) (up L c l) N (held ++ [blk]) (up p t .idle) zs (.slice A2 (held.length + 1) c2') (w8.setCell ⟨ga, t, none⟩ (.pointer none))) := Lib.hid ⟨(HA3.out.setA t3 (.pointer none)).congr (fun u _ => fup rfl) (fun u _ => fsame (by rw [ho]; rfl)), zz_up HG.out.zz (fun g' st2 c2 b2 x2 hq => by cases hq), lv_up HG.out.lv (fun g' st2 c2 x2 n2 hq => by cases hq), by have := HG.out.hl; simp; omega⟩
              clear HG HA2 HA3 hM ho8 hF8
              go_upto_region 29 with (first | (go_at_call 24; (with_reducible refine hdn.mono ?_); rintro e w6 ⟨rfl, rfl⟩) | (go_at_call 25; (with_reducible refine hbk.mono ?_); rintro e w7 ⟨rfl, rfl⟩) | (at_builtin; refine wpList_append_run rfl _ _ _ rfl hrun (by rfl) (by rfl) ?_))
              go_wp2_with fail
              all_goals go_meet
              all_goals exact ⟨nn, _, _, _, held ++ [blk], _, _, rfl, by omega, ⟨_, _, by rw [List.length_append]; rfl⟩, HG2⟩
          · rw [ho] at haq
            have haq2 : wr.cell? ⟨gb, t, none⟩ = some (.pointer (some ⟨g, 0, none⟩)) := haq
            clear haq hap
            have hc := core_push (HG.out.ka.core.drewN 1) (by omega) hlo hle t3 ho
            rw [show wr.drewN 1 = wr.drew from rfl] at hc
            have hgg := HG.out.ka.core.gb t g t3 (by rw [ho]; rfl)
            have hs0 : (fun W : World => W.cell? ⟨gb, t, none⟩ = some (.pointer (some ⟨g, 0, none⟩)) ∧ W.cell? ⟨gp, 0, none⟩ = some (.pointer (some ⟨b, 0, none⟩))) wr.drew := ⟨haq2, hpm⟩
            have HA1 := Lib.hid (HG.out.ka.below (below_drewN (Below.refl _ wr) 1))
            rw [show wr.drewN 1 = wr.drew from rfl] at HA1
            go_upto_region 20 with (fail)
            go_region_held3 (fun W : World => W.cell? ⟨gb, t, none⟩ = some (.pointer (some ⟨g, 0, none⟩)) ∧ W.cell? ⟨gp, 0, none⟩ = some (.pointer (some ⟨b, 0, none⟩))) (first | (with_reducible exact hs0) | (with_reducible exact ⟨hk1, hk2⟩) | (with_reducible assumption)) (first
              | (go_at_call 26; (with_reducible refine hc.mono ?_); rintro e w5 ⟨v, st', x', T', L', N', p', rfl, hF, hM, hC, hO⟩; have hk1 : w5.cell? ⟨gb, t, none⟩ = some (.pointer (some ⟨g, 0, none⟩)) := (World.cell?_of_block (hF.block gb HA1.out.aq.lt (by unfold PG; omega))).trans haq2; have hk2 : w5.cell? ⟨gp, 0, none⟩ = some (.pointer (some ⟨b, 0, none⟩)) := (World.cell?_of_block (hF.block gp HA1.out.pm.lt (by unfold PG; omega))).trans hpm))
            have hPQ : ∀ x, PG lo hi g x → (lo ≤ x ∧ x < hi) ∨ (gi < x ∧ ¬ PQ (gi + 1) wr.drew x) := fun x hx => by
              unfold PG at hx
              rcases hx with hx | rfl
              · exact .inl hx
              · exact .inr ⟨by omega, mbox_pq (HA1.out.core.en t t3) (by rw [ho]; rfl)⟩
            have HA2 := Lib.hid (HA1.out.step hF hPQ hC)
            have hdn := u_done g _ _ _ _ w5 hM
            have hfz := HA2.out.aq.frozen t
            clear hc hF hC hPQ HA1 hs0 hpm haq2
            rcases hO with ⟨h1, rfl, rfl, rfl⟩ | ⟨h1, rfl, rfl, rfl, rfl⟩
            · have hst : ((st' : Int) == 3) = false := by simp; omega
              rw [hst] at hdn
              have HG2 : Hid (KS w0 lo hi b rb gp ga gb gi (i + 1) T' L' N' held (up p t (.push g st' c bk x')) zs _ w5) := Lib.hid ⟨HA2.out.congr (fun u _ => fsame (by rw [ho]; rfl)) (fun u _ => fsame (by rw [ho]; rfl)), zz_up HG.out.zz (fun g' st2 c2 b2 x2 hq => by injection hq with _ _ _ e4; rw [← e4]; exact HG.out.zz t t3 _ _ _ _ _ ho), lv_up HG.out.lv (fun g' st2 c2 x2 n2 hq => by cases hq), by have := HG.out.hl; omega⟩
              clear HG HA2 hM
              go_wp2_with (go_at_call 28; (with_reducible refine hdn.mono ?_); rintro e w6 ⟨rfl, rfl⟩)
              all_goals go_meet
              all_goals exact ⟨nn, _, _, _, _, _, _, rfl, by omega, ⟨_, _, rfl⟩, HG2⟩
            · subst h1
              have hst : (((3 : Nat) : Int) == 3) = true := by decide
              rw [hst] at hdn
              have HG2 : Hid (KS w0 lo hi b rb gp ga gb gi (i + 1) (up T c (T c + 1)) (up L c (bk :: L c)) N' held (up p t .idle) zs (.slice Ah held.length ch) (w5.setCell ⟨gb, t, none⟩ (.pointer none))) := Lib.hid ⟨(HA2.out.setB t3 (.pointer none)).congr (fun u _ => fsame (by rw [ho]; rfl)) (fun u _ => fup rfl), zz_up HG.out.zz (fun g' st2 c2 b2 x2 hq => by cases hq), lv_up HG.out.lv (fun g' st2 c2 x2 n2 hq => by cases hq), by have := HG.out.hl; omega⟩
              clear HG HA2 hM
              go_wp2_with (go_at_call 28; (with_reducible refine hdn.mono ?_); rintro e w6 ⟨rfl, rfl⟩)
              all_goals go_meet
              all_goals exact ⟨nn, _, _, _, _, _, _, rfl, by omega, ⟨_, _, rfl⟩, HG2⟩
        case rest =>
          obtain ⟨nn', T', L', N', held', p', zs', rfl, hnn, ⟨Ah', ch', rfl⟩, HG'⟩ := hcut
          clear HG hap haq hpm htc
          have hpm := HG'.out.ka.pm.cell 0
          simp at hpm
          have hb0 := HG'.out.ka.aq.cell 0
          have hb1 := HG'.out.ka.aq.cell 1
          have hb2 := HG'.out.ka.aq.cell 2
          have hb3 := HG'.out.ka.aq.cell 3
          have hi0 := HG'.out.ka.ai.cell 0
          have hi1' := HG'.out.ka.ai.cell 1
          have hi2 := HG'.out.ka.ai.cell 2
          have hi3 := HG'.out.ka.ai.cell 3
          simp at hb0 hb1 hb2 hb3 hi0 hi1' hi2 hi3
          have hIm := f_image46 (HG'.out.ka.core.fl.drewN 1) HG'.out.ka.core.inv.len
          rw [show wc.drewN 1 = wc.drew from rfl] at hIm
          have hs0 : (fun W : World => W.cell? ⟨gp, 0, none⟩ = some (.pointer (some ⟨b, 0, none⟩)) ∧ W.cell? ⟨gb, 0, none⟩ = some (pqv (p' 0)) ∧ W.cell? ⟨gb, 1, none⟩ = some (pqv (p' 1)) ∧ W.cell? ⟨gb, 2, none⟩ = some (pqv (p' 2)) ∧ W.cell? ⟨gb, 3, none⟩ = some (pqv (p' 3)) ∧ W.cell? ⟨gi, 0, none⟩ = some (.int .i64 (zs' 0)) ∧ W.cell? ⟨gi, 1, none⟩ = some (.int .i64 (zs' 1)) ∧ W.cell? ⟨gi, 2, none⟩ = some (.int .i64 (zs' 2)) ∧ W.cell? ⟨gi, 3, none⟩ = some (.int .i64 (zs' 3))) wc.drew := ⟨hpm, hb0, hb1, hb2, hb3, hi0, hi1', hi2, hi3⟩
          have hkp : ∀ w7, Stay lo hi wc.drew w7 → (fun W : World => W.cell? ⟨gp, 0, none⟩ = some (.pointer (some ⟨b, 0, none⟩)) ∧ W.cell? ⟨gb, 0, none⟩ = some (pqv (p' 0)) ∧ W.cell? ⟨gb, 1, none⟩ = some (pqv (p' 1)) ∧ W.cell? ⟨gb, 2, none⟩ = some (pqv (p' 2)) ∧ W.cell? ⟨gb, 3, none⟩ = some (pqv (p' 3)) ∧ W.cell? ⟨gi, 0, none⟩ = some (.int .i64 (zs' 0)) ∧ W.cell? ⟨gi, 1, none⟩ = some (.int .i64 (zs' 1)) ∧ W.cell? ⟨gi, 2, none⟩ = some (.int .i64 (zs' 2)) ∧ W.cell? ⟨gi, 3, none⟩ = some (.int .i64 (zs' 3))) w7 := fun w7 hT => ⟨(World.cell?_of_block (hT.block gp HG'.out.ka.pm.lt (.inr (by omega)))).trans hpm, (World.cell?_of_block (hT.block gb HG'.out.ka.aq.lt (.inr (by omega)))).trans hb0, (World.cell?_of_block (hT.block gb HG'.out.ka.aq.lt (.inr (by omega)))).trans hb1, (World.cell?_of_block (hT.block gb HG'.out.ka.aq.lt (.inr (by omega)))).trans hb2, (World.cell?_of_block (hT.block gb HG'.out.ka.aq.lt (.inr (by omega)))).trans hb3, (World.cell?_of_block (hT.block gi HG'.out.ka.ai.lt (.inr (by omega)))).trans hi0, (World.cell?_of_block (hT.block gi HG'.out.ka.ai.lt (.inr (by omega)))).trans hi1', (World.cell?_of_block (hT.block gi HG'.out.ka.ai.lt (.inr (by omega)))).trans hi2, (World.cell?_of_block (hT.block gi HG'.out.ka.ai.lt (.inr (by omega)))).trans hi3⟩
          have HA1 := Lib.hid (HG'.out.ka.below (below_drewN (Below.refl _ wc) 1))
          rw [show wc.drewN 1 = wc.drew from rfl] at HA1
          have hhl : held'.length ≤ 1000 := by have := HG'.out.hl; omega
          go_upto_region 36 with (fail)
          go_region_held3 (fun W : World => W.cell? ⟨gp, 0, none⟩ = some (.pointer (some ⟨b, 0, none⟩)) ∧ W.cell? ⟨gb, 0, none⟩ = some (pqv (p' 0)) ∧ W.cell? ⟨gb, 1, none⟩ = some (pqv (p' 1)) ∧ W.cell? ⟨gb, 2, none⟩ = some (pqv (p' 2)) ∧ W.cell? ⟨gb, 3, none⟩ = some (pqv (p' 3)) ∧ W.cell? ⟨gi, 0, none⟩ = some (.int .i64 (zs' 0)) ∧ W.cell? ⟨gi, 1, none⟩ = some (.int .i64 (zs' 1)) ∧ W.cell? ⟨gi, 2, none⟩ = some (.int .i64 (zs' 2)) ∧ W.cell? ⟨gi, 3, none⟩ = some (.int .i64 (zs' 3))) (first | (with_reducible exact hs0) | (with_reducible exact ⟨g0, g1, g2, g3, g4, g5, g6, g7, g8⟩) | (with_reducible exact ⟨e0, e1, e2, e3, e4, e5, e6, e7, e8⟩) | (with_reducible assumption)) (first
            | (go_at_call 30; (with_reducible refine hIm.mono ?_); rintro e w7 ⟨i1, i2, i3, i4, i5, m1, m2, m3, q1, q2, q3, q4, q5, c, tt, s, rfl, hH, hN, hfl, hT⟩; obtain ⟨g0, g1, g2, g3, g4, g5, g6, g7, g8⟩ := hkp w7 hT; have HA2 := Lib.hid (HA1.out.step (P := PI lo hi) (Fr.of_stay hT fun x a c => ⟨a, c⟩) (fun x hx => .inl hx) (core_cells HA1.out.core hT hfl)); have hkk := l_kept i1 i2 i3 i4 i5 m1 m2 m3 q1 q2 q3 q4 q5 c tt s w7 HG'.out.ka.core.inv (by omega) hH hN Ah' ch' (rdi_of HA2.out.ho (Below.refl _ w7)) hhl zs' HG'.out.zz)
            | (go_at_call 34; (with_reducible refine hkk.mono ?_); rintro e w8 ⟨rfl, hb8⟩; have e0 := (World.cell?_of_block (hb8.block gp HA2.out.pm.lt)).trans g0; have e1 := (World.cell?_of_block (hb8.block gb HA2.out.aq.lt)).trans g1; have e2 := (World.cell?_of_block (hb8.block gb HA2.out.aq.lt)).trans g2; have e3 := (World.cell?_of_block (hb8.block gb HA2.out.aq.lt)).trans g3; have e4 := (World.cell?_of_block (hb8.block gb HA2.out.aq.lt)).trans g4; have e5 := (World.cell?_of_block (hb8.block gi HA2.out.ai.lt)).trans g5; have e6 := (World.cell?_of_block (hb8.block gi HA2.out.ai.lt)).trans g6; have e7 := (World.cell?_of_block (hb8.block gi HA2.out.ai.lt)).trans g7; have e8 := (World.cell?_of_block (hb8.block gi HA2.out.ai.lt)).trans g8))
          have HG3 : Hid (KS w0 lo hi b rb gp ga gb gi (i + 1) T' L' N' held' p' zs' (.slice Ah' held'.length ch') w8) := Lib.hid ⟨HA2.out.below hb8, HG'.out.zz, HG'.out.lv, HG'.out.hl⟩
          clear HG' HA1 HA2 hIm hkp hkk hs0 g0 g1 g2 g3 g4 g5 g6 g7 g8 e0 e1 e2 e3 e4 e5 e6 e7 e8 hH hN hfl hT hb8 hpm hb0 hb1 hb2 hb3 hi0 hi1' hi2 hi3
          go_wp2_with fail
          go_roundw
          case rel => exact ⟨i + 1, nn', T', L', N', held', p', zs', by go_num, rfl, hnn, by omega, ⟨_, _, rfl⟩, HG3.out⟩
          case measure => simp [intOf]; omega
      · obtain rfl : i = n1 := by omega
        go_wp2_with fail
        refine (FreL.l_awake _).mono ?_
        rintro e w6 ⟨rfl, hb6⟩
        have HB6 := Lib.hid (below_trans2 HB0.out (below_trans2 HG.out.ka.core.fl.old hb6))
        clear hb6
        go_wp2
        go_ret
        exact ⟨rfl, .of_below HB6.out⟩

/-! The row's step. -/
set_option maxRecDepth 100000 in
theorem lifted (os : Os) (started : os.Started) (H : Type) (enc : TypeId × Value → H) :
    ReturnsInHanded {} Try.checked os 5 .any (Rows.freelistKeepsSpec.pre6 enc Try.prog Try.f5 Rows.freelistKeepsRow.domain false) (Rows.freelistKeepsSpec.post enc Try.prog Try.f5 false true false false) := by
  refine returnsInHanded_of_change (C := Try.checked) own started (by kernel_rfl) Try.func5
    (ChangeSpec.witness6 (enc := enc) (C := Try.checked) false ⟨#[], #[.slice none 0 0, .slice none 0 0], []⟩ 8 (by kernel_rfl) (by kernel_rfl) (by kernel_rfl) (by kernel_rfl)) ?_
  intro W base args ds gs before hval0 hW hcnd _
  have hval : ∀ (j : Nat) t v, Try.f5.params[j]? = some t → args[j]? = some v → Value.okWide Try.prog W .any base t v := hval0
  have hW' := hW
  obtain ⟨p, q, hA0, hV, rfl, hfz, hnd⟩ := hW
  have hA : DataW.TrodAll enc Try.prog W 0 (fun _ => true) true Try.f5.params.toList args.toList ds p := hA0
  rw [Try.params5] at hA hval
  obtain ⟨v0, vs0, d0, ds0, p0, q0, hargs, rfl, rfl, h0, r0⟩ := trodAll_cons hA
  obtain ⟨v1, vs1, d1, ds1, p1, q1, rfl, rfl, rfl, h1, r1⟩ := trodAll_cons r0
  obtain ⟨rfl, rfl, rfl⟩ := trodAll_nil r1
  obtain rfl : args = #[v0, v1] := by cases args; simp_all
  obtain ⟨rfl, rfl⟩ := trodVars_none hV
  have hk : ∀ W', Kept W W' → Rows.freelistKeepsSpec.post enc Try.prog Try.f5 false true false false W #[v0, v1] (.bool true) W' := fun W' hb =>
    post_law laidOut readable rfl Try.underlying4 rfl hW' rfl hb
  clear hA0 hval0 hA hW'
  obtain ⟨A0, n0, c0, z0, rfl, l0, m0, s0⟩ := open_slice Try.underlying22 Try.underlying3 cells3 (hval 0 22 v0 rfl rfl) h0
  obtain ⟨A1, n1, c1, z1, rfl, l1, m1, s1⟩ := open_slice Try.underlying22 Try.underlying3 cells3 (hval 1 22 v1 rfl rfl) h1
  refine (walk W A0 n0 c0 z0 l0 m0 s0 A1 n1 c1 z1 l1 m1 s1).mono fun e W' ⟨he, hg⟩ => ?_
  subst he
  exact ⟨_, rfl, hk W' hg⟩

theorem over : Rows.freelistKeepsRow.holds Try.pinned (OpenSpec.ofChange Rows.freelistKeepsSpec) :=
  OpenClaim.holds_of_wide 5 Try.f5 rfl rfl rfl rfl rfl rfl rfl ⟨rfl, rfl, rfl, rfl, rfl⟩ rfl rfl rfl rfl rfl (by kernel_rfl) Try.func5 (by kernel_rfl)
    (of_decide_eq_true (by kernel_rfl)) (by unfold Func.isWrapper; first | (rw [if_pos (by decide +kernel)]; kernel_rfl) | (rw [if_neg (by decide +kernel)]; exact ⟨rfl, rfl⟩))
    (fun os started H enc _ => lifted os started H enc)

/-- The statement. -/
theorem proved : Rows.FreelistKeepsSaid :=
  over
#print axioms proved
end Go.Proofs.Ytpnkjdamgkaonaa.freelistKeeps
