/-
  Proved: every change of a head increases its tag by 1, so that no swap is done by mistake. No condition.
-/
import Derived.Test.YtpnkjdamgkaonaaRows
import Derived.WalkKit
import Derived.ProofKit
import Derived.OpenShut
import Derived.Test.YtpnkjdamgkaonaaFrame
import Derived.Test.YtpnkjdamgkaonaaFreT
import Derived.Deep.RegionHeld3
import Derived.Deep.RegionLaw
import Derived.Deep.Cut
import Derived.Deep.DeepCutAuto
import Derived.Deep.CutBlock
namespace Go.Proofs.Ytpnkjdamgkaonaa.freelistTags
open Go.ChangeShapes Go.WideShapes Go.ChangeAt Go.RowKit
open LawFrame
open Go.ChangeMaps (open_string)
set_option linter.unusedVariables false

theorem own : ownKnob Try.prog.godebug = none := by kernel_rfl
theorem laidOut : laidOutB Try.prog = true := by kernel_rfl
theorem cells3 : Try.prog.cellsOf 3 = 1 := by kernel_rfl

open PlainT BlkW LayS LayA LayH LayK LayP CelS CelM CelP CelV CelN CelO CelI CelY CelQ LabD LabR LabP LabS LabT WordC FreP FreQ FreV FreC FreI FreA FreB FreS FreW FreL FreT
set_option maxHeartbeats 4000000
set_option maxRecDepth 100000
abbrev TAp : TypeId := 67
def ppv : Th → Value
  | .pop g _ _ _ _ => .pointer (some ⟨g, 0, none⟩)
  | _ => .pointer none
abbrev A4 (f : Nat → Value) : Array Value := #[f 0, f 1, f 2, f 3]
theorem A4_set (f : Nat → Value) {t : Nat} (ht : t ≤ 3) (v : Value) : (A4 f).setIfInBounds t v = A4 (up f t v) := by
  rcases four ht with rfl | rfl | rfl | rfl <;> simp [A4, up]
theorem A4_congr {f f' : Nat → Value} (h : ∀ u, u ≤ 3 → f u = f' u) : A4 f = A4 f' := by
  simp only [A4, h 0 (by omega), h 1 (by omega), h 2 (by omega), h 3 (by omega)]
theorem arr_at {w : World} {g : Nat} {ty : TypeId} {f : Nat → Value} (h : Mem w g ty (A4 f)) {t : Nat} (ht : t ≤ 3) : w.cell? ⟨g, t, none⟩ = some (f t) := by
  rcases four ht with rfl | rfl | rfl | rfl
  · exact h.cell 0
  · exact h.cell 1
  · exact h.cell 2
  · exact h.cell 3
theorem fup {f : Th → Value} {p : Nat → Th} {t u : Nat} {o : Th} {v : Value} (h : f o = v) : up (fun u => f (p u)) t v u = f (up p t o u) := by
  by_cases e : u = t
  · subst e
    rw [up_at, up_at, h]
  · rw [up_ne e, up_ne e]
theorem fsame {α : Type} {f : Th → α} {p : Nat → Th} {t u : Nat} {o : Th} (h : f o = f (p t)) : f (p u) = f (up p t o u) := by
  by_cases e : u = t
  · subst e
    rw [up_at, h]
  · rw [up_ne e]
/-- The statement's state: pops alone; what was popped is kept aside. -/
structure TS (w0 : World) (lo hi b rb gp ga : Nat) (K : Int) (T : Nat → Int) (L : Nat → List Nat) (N : List Int) (held : List Nat) (p : Nat → Th) (W : World) : Prop where
  core : Core w0 lo hi b rb false (ga + 1) K T L N held p W
  pm : Mem W gp TP #[.pointer (some ⟨b, 0, none⟩), .pointer (some ⟨rb, 0, none⟩)]
  ap : Mem W ga TAp (A4 fun u => ppv (p u))
  np : ∀ t, t ≤ 3 → pb (p t) = []
  od : w0.heap.size ≤ lo ∧ lo ≤ hi ∧ hi ≤ gp ∧ gp < ga
section
variable {w0 W W' : World} {lo hi b rb gp ga t : Nat} {K K' : Int} {T T' : Nat → Int} {L L' : Nat → List Nat} {N N' : List Int} {held held' : List Nat} {p p' : Nat → Th} {P : Nat → Prop}
theorem TS.below (h : TS w0 lo hi b rb gp ga K T L N held p W) (k : Below W.heap.size W W') : TS w0 lo hi b rb gp ga K T L N held p W' :=
  ⟨h.core.below k, h.pm.below k h.pm.lt, h.ap.below k h.ap.lt, h.np, h.od⟩
theorem core_cells {bs : Nat} (h : Core w0 lo hi b rb false bs K T L N held p W) (k : Stay lo hi W W') (hfl : Fl w0 lo hi b rb false T L N W') : Core w0 lo hi b rb false bs K T L N held p W' :=
  ⟨hfl, h.inv, h.hb, fun t ht => mbox_fr (P := PI lo hi) (h.en t ht) (Fr.of_stay k fun x a c => ⟨a, c⟩) (fun g hg hx => by have := h.gb t g ht hg; have := h.hb; unfold PI at hx; omega), h.gb, h.di⟩
theorem TS.stay (h : TS w0 lo hi b rb gp ga K T L N held p W) (k : Stay lo hi W W') (hfl : Fl w0 lo hi b rb false T L N W') : TS w0 lo hi b rb gp ga K T L N held p W' := by
  have hod := h.od
  exact ⟨core_cells h.core k hfl, Mem.of_eq h.pm (k.block gp h.pm.lt (.inr (by omega))), Mem.of_eq h.ap (k.block ga h.ap.lt (.inr (by omega))), h.np, hod⟩
theorem core_more {bs : Nat} {tw : Bool} (h : Core w0 lo hi b rb tw bs K T L N held p W) (hk : K ≤ K') : Core w0 lo hi b rb tw bs K' T L N held p W := ⟨h.fl, h.inv.more hk, h.hb, h.en, h.gb, h.di⟩
end
/-- What the heads do in a step: nothing, or one of them gets the next tag. -/
def HdOut (T T' : Nat → Int) (L L' : Nat → List Nat) (k1 k3 : Int) (d : Bool) : Prop :=
  (T' = T ∧ L' = L ∧ ¬ (k1 = 3 ∧ d = true)) ∨ (∃ c : Nat, ∃ l, c ≤ 3 ∧ k1 = 3 ∧ d = true ∧ k3 = c ∧ T' = up T c (T c + 1) ∧ L' = up L c l)
theorem ts_step {w0 W : World} {lo hi b rb gp ga t g st c : Nat} {K : Int} {T : Nat → Int} {L : Nat → List Nat} {N : List Int} {held : List Nat} {p : Nat → Th} {x n : Int} (h : TS w0 lo hi b rb gp ga K T L N held p W) (hK : K ≤ 1000000) (ht : t ≤ 3) (hp : p t = .pop g st c x n) (hst : st ≤ 2) :
    Calls Try.prog 22 #[.pointer (some ⟨g, 0, none⟩), .pointer (some ⟨b, 0, none⟩)] W fun e w' => ∃ (k1 k2 k3 k4 k5 : Int) (d : Bool) (T' : Nat → Int) (L' : Nat → List Nat) (held' : List Nat) (p' : Nat → Th),
      e = .returned (accV k1 k2 k3 k4 k5 d) ∧ Fr (PG lo hi g) W w' ∧ TS w0 lo hi b rb gp ga (K + 1) T' L' N held' p' w' ∧ HdOut T T' L L' k1 k3 d ∧ ∀ u, u ≤ 3 → gOf (p' u) = gOf (p u) := by
  have hod := h.od
  have hgb := h.core.gb t g ht (by rw [hp]; rfl)
  have hok := h.core.inv.ok t ht
  rw [hp] at hok
  refine (core_pop h.core hK hod.1 hod.2.1 ht hp hst).mono ?_
  rintro e w' ⟨k1, k2, k3, k4, k5, d, st', x', n', bl', T', L', held', p', he, hF, hM, hC, hO⟩
  have hpm := mem_fr h.pm hF (by unfold PG; omega)
  have hap := mem_fr h.ap hF (by unfold PG; omega)
  have hpb : ∀ o, pb o = [] → ∀ u, u ≤ 3 → pb (up p t o u) = [] := fun o ho u hu => by
    by_cases e : u = t
    · subst e
      rw [up_at, ho]
    · rw [up_ne e]
      exact h.np u hu
  have hcc : A4 (fun u => ppv (p u)) = A4 (fun u => ppv (up p t (.pop g st' c x' n') u)) := A4_congr fun u _ => fsame (by rw [hp]; rfl)
  have hgo : ∀ u, u ≤ 3 → gOf (up p t (.pop g st' c x' n') u) = gOf (p u) := fun u _ => (fsame (f := gOf) (by rw [hp]; rfl)).symm
  have hover : ∀ {T' L' held'}, st' = 3 → Core w0 lo hi b rb false (ga + 1) (K + 1) T' L' N held' (up p t .idle) w' → Core w0 lo hi b rb false (ga + 1) (K + 1) T' L' N held' (up p t (.pop g st' c x' n')) w' := fun {T' L' held'} h3 hc => by
    have e : up p t (.pop g st' c x' n') = up (up p t .idle) t (.pop g st' c x' n') := (up_up p t _ _).symm
    rw [e]
    have hgo : ∀ u, u ≤ 3 → u ≠ t → gOf (up p t .idle u) ≠ some g := fun u hu hne => by
      rw [up_ne hne]
      exact h.core.di t u g ht hu (Ne.symm hne) (by rw [hp]; rfl)
    refine ⟨hc.fl, hc.inv.turn ht (by rw [up_at]; rfl) ⟨hok.1, .inl (.inr h3)⟩, hc.hb, fun u hu => ?_, fun u g' hu hg => ?_, di_up hc.di ht fun g' hg u hu hne => ?_⟩
    · by_cases e2 : u = t
      · subst e2
        rw [up_at]
        exact ⟨by omega, bl', fun h => by omega, hM⟩
      · rw [up_ne e2]
        exact hc.en u hu
    · by_cases e2 : u = t
      · subst e2
        rw [up_at] at hg
        injection hg with hg
        omega
      · rw [up_ne e2] at hg
        exact hc.gb u g' hu hg
    · injection hg with hg
      subst hg
      exact hgo u hu hne
  rcases hO with ⟨h1, h2, rfl, rfl, rfl, rfl, h3⟩ | ⟨h1, h2, _, rfl, rfl, rfl, rfl, h3⟩ | ⟨h1, l, blk, _, h2, rfl, rfl, rfl, rfl, h3, _, h5, h6⟩
  · exact ⟨k1, k2, k3, k4, k5, d, T', L', held', _, he, hF, ⟨hC, hpm, hcc ▸ hap, hpb _ rfl, hod⟩, .inl ⟨rfl, rfl, h3⟩, hgo⟩
  · exact ⟨k1, k2, k3, k4, k5, d, T', L', held', _, he, hF, ⟨hover h1 hC, hpm, hcc ▸ hap, hpb _ rfl, hod⟩, .inl ⟨rfl, rfl, h3⟩, hgo⟩
  · exact ⟨k1, k2, k3, k4, k5, d, _, _, _, _, he, hF, ⟨hover h1 hC, hpm, hcc ▸ hap, hpb _ rfl, hod⟩, .inr ⟨c, l, hok.1, h3, h6, h5, rfl, rfl⟩, hgo⟩
theorem img6 (d o l h n : Value) (c t s : Int) (w : World) : (Instr.field 61 (imgV d o c t s l h n) 6).run Try.prog w = .ok h w := by kernel_rfl
/-- A row of words of the call's own. -/
theorem own_form {w : World} {B n c : Nat} {A : Option Addr} {xs : List Int} (h : OwnU w B (.slice A n c) xs) (h0 : 0 < xs.length) : ∃ g, A = some ⟨g, 0, none⟩ ∧ B ≤ g ∧ g < w.heap.size ∧ ∀ i, i < xs.length → w.cell? ⟨g, i, none⟩ = some (.int .u64 (xs.getD i 0)) := by
  obtain ⟨g, cap, cur, e, hB, hh, hl, hc⟩ := own_cells h (by omega)
  injection e with e1 e2 e3
  subst e1
  refine ⟨g, rfl, hB, hl, fun i hi => ?_⟩
  rw [hc i (by omega)]
  unfold us
  rw [List.getElem?_map, List.getD_eq_getElem?_getD, List.getElem?_eq_getElem hi]
  rfl
/-- The heads out of an image: a row of the call's own. -/
theorem f_heads {w0 w : World} {lo hi b rb : Nat} {T : Nat → Int} {L : Nat → List Nat} {N : List Int} (h : Fl w0 lo hi b rb false T L N w) : Calls Try.prog 30 #[.pointer (some ⟨b, 0, none⟩)] w fun e w' =>
    ∃ (a1 a2 a3 a5 : Option Addr) (n1 n2 n3 n5 k1 k2 k3 k4 k5 : Nat) (c t s : Int) (g4 : Nat), e = .returned (imgV (.slice a1 n1 k1) (.slice a2 n2 k2) c t s (.slice a3 n3 k3) (.slice (some ⟨g4, 0, none⟩) 4 k4) (.slice a5 n5 k5)) ∧
      w.heap.size ≤ g4 ∧ g4 < w'.heap.size ∧ (∀ k, k ≤ 3 → w'.cell? ⟨g4, k, none⟩ = some (.int .u64 (T k * 65536 + hd (L k)))) ∧ Fl w0 lo hi b rb false T L N w' ∧ Stay lo hi w w' := by
  refine (f_image (Fx.of_fl h)).mono ?_
  rintro e w' ⟨a1, a2, a3, a4, a5, n1, n2, n3, k1, k2, k3, k4, k5, c, t, s, he, o4, o5, hS, hT⟩
  obtain ⟨g4, rfl, hB, hl, hc⟩ := own_form o4 (by rw [hds_len]; decide)
  rw [show (hds T L).length = 4 from rfl] at he hc
  refine ⟨a1, a2, a3, a5, n1, n2, n3, _, k1, k2, k3, k4, k5, c, t, s, g4, he, hB, hl, fun k hk => by rw [hc k (by omega), hds_at hk], ?_, hT⟩
  obtain ⟨⟨A, B, h1, h2, h3, h4, h5, h6⟩, h8, h9⟩ := hS
  exact ⟨⟨A, B, h1, h2, h3, h4, h5, h6, fun h => by cases h⟩, h8, h9⟩
theorem TS.side {w0 W W' : World} {lo hi b rb gp ga : Nat} {K : Int} {T : Nat → Int} {L : Nat → List Nat} {N : List Int} {held : List Nat} {p : Nat → Th} {P : Nat → Prop} (h : TS w0 lo hi b rb gp ga K T L N held p W) (k : Fr P W W') (hp : ∀ g, P g → ga < g ∧ ∀ t, t ≤ 3 → gOf (p t) ≠ some g) : TS w0 lo hi b rb gp ga K T L N held p W' := by
  have hod := h.od
  exact ⟨h.core.side k (fun g hg => ⟨by have := hp g hg; omega, by have := hp g hg; omega, .inr (hp g hg).2⟩), mem_fr h.pm k (fun x => by have := hp _ x; omega), mem_fr h.ap k (fun x => by have := hp _ x; omega), h.np, hod⟩
theorem fr_cell {P : Nat → Prop} {W W' : World} {g i : Nat} {v : Value} (k : Fr P W W') (h : W.cell? ⟨g, i, none⟩ = some v) (hl : g < W.heap.size) (hp : ¬ P g) : W'.cell? ⟨g, i, none⟩ = some v := (World.cell?_of_block (k.block g hl hp)).trans h
/-- Two cells of elder blocks through a call and a new box, and through a call and a box filled. -/
theorem ka_row {P : Nat → Prop} {W0 W' : World} {ga gp t : Nat} {va vp : Value} (hs : (fun W : World => W.cell? ⟨ga, t, none⟩ = some va ∧ W.cell? ⟨gp, 0, none⟩ = some vp) W0) (la : ga < W0.heap.size) (lp : gp < W0.heap.size) (na : ¬ P ga) (np : ¬ P gp) (k1 k2 k3 k4 k5 : Int) (d : Bool) (hF : Fr P W0 W') :
    (fun W : World => W.cell? ⟨ga, t, none⟩ = some va ∧ W.cell? ⟨gp, 0, none⟩ = some vp) W' ∧ (fun W : World => W.cell? ⟨ga, t, none⟩ = some va ∧ W.cell? ⟨gp, 0, none⟩ = some vp) (W'.alloc (.cells #[.int .i64 0, .int .i64 0, .int .i64 0, .int .u64 0, .int .u64 0, .bool false] 50)) ∧ (fun W : World => W.cell? ⟨ga, t, none⟩ = some va ∧ W.cell? ⟨gp, 0, none⟩ = some vp) (W'.alloc (.cells #[.int .i64 k1, .int .i64 k2, .int .i64 k3, .int .u64 k4, .int .u64 k5, .bool d] 50)) := by
  have ea := (World.cell?_of_block (hF.block ga la na)).trans hs.1
  have ep := (World.cell?_of_block (hF.block gp lp np)).trans hs.2
  have la' : ga < W'.heap.size := Nat.lt_of_lt_of_le la hF.size
  have lp' : gp < W'.heap.size := Nat.lt_of_lt_of_le lp hF.size
  exact ⟨⟨ea, ep⟩, ⟨(World.cell?_of_block ((below_new W' _).block ga la')).trans ea, (World.cell?_of_block ((below_new W' _).block gp lp')).trans ep⟩, ⟨(World.cell?_of_block ((below_new W' _).block ga la')).trans ea, (World.cell?_of_block ((below_new W' _).block gp lp')).trans ep⟩⟩
theorem kb_row {P : Nat → Prop} {W0 W' : World} {ga gp z t : Nat} {va vp : Value} (hs : (fun W : World => W.cell? ⟨ga, t, none⟩ = some va ∧ W.cell? ⟨gp, 0, none⟩ = some vp) W0) (la : ga < W0.heap.size) (lp : gp < W0.heap.size) (na : ¬ P ga) (np : ¬ P gp) (hz : Mem W0 z 50 #[.int .i64 0, .int .i64 0, .int .i64 0, .int .u64 0, .int .u64 0, .bool false]) (nz : ¬ P z) (h1 : ga ≠ z) (h2 : gp ≠ z) (k1 k2 k3 k4 k5 : Int) (d : Bool) (hF : Fr P W0 W') :
    (fun W : World => W.cell? ⟨ga, t, none⟩ = some va ∧ W.cell? ⟨gp, 0, none⟩ = some vp) W' ∧ (fun W : World => W.cell? ⟨ga, t, none⟩ = some va ∧ W.cell? ⟨gp, 0, none⟩ = some vp) ((((((W'.setCell ⟨z, 0, none⟩ (.int .i64 k1)).setCell ⟨z, 1, none⟩ (.int .i64 k2)).setCell ⟨z, 2, none⟩ (.int .i64 k3)).setCell ⟨z, 3, none⟩ (.int .u64 k4)).setCell ⟨z, 4, none⟩ (.int .u64 k5)).setCell ⟨z, 5, none⟩ (.bool d)) ∧ Mem W' z 50 #[.int .i64 0, .int .i64 0, .int .i64 0, .int .u64 0, .int .u64 0, .bool false] := by
  have z0 := mem_fr hz hF nz
  have ea := (World.cell?_of_block (hF.block ga la na)).trans hs.1
  have ep := (World.cell?_of_block (hF.block gp lp np)).trans hs.2
  have la' : ga < W'.heap.size := Nat.lt_of_lt_of_le la hF.size
  have lp' : gp < W'.heap.size := Nat.lt_of_lt_of_le lp hF.size
  have F6 := Fr.of_stay (P := fun x => x = z) (store6 z0 (.int .i64 k1) (.int .i64 k2) (.int .i64 k3) (.int .u64 k4) (.int .u64 k5) (.bool d)).2 (fun x a c => by omega)
  exact ⟨⟨ea, ep⟩, ⟨fr_cell F6 ea la' h1, fr_cell F6 ep lp' h2⟩, z0⟩
/-- What a step leaves: the answer's box, the state, what the heads did. -/
def CutA (w0 : World) (lo hi b rb gp ga : Nat) (K : Int) (T : Nat → Int) (L : Nat → List Nat) (N : List Int) (g4 : Nat) (pv : Value) (wc : World) : Prop :=
  ∃ (gx : Nat) (k1 k2 k3 k4 k5 : Int) (d : Bool) (T' : Nat → Int) (L' : Nat → List Nat) (held' : List Nat) (p' : Nat → Th), pv = .pointer (some ⟨gx, 0, none⟩) ∧ Mem wc gx 50 #[.int .i64 k1, .int .i64 k2, .int .i64 k3, .int .u64 k4, .int .u64 k5, .bool d] ∧ TS w0 lo hi b rb gp ga K T' L' N held' p' wc ∧ HdOut T T' L L' k1 k3 d ∧ (∀ k, k ≤ 3 → wc.cell? ⟨g4, k, none⟩ = some (.int .u64 (T k * 65536 + hd (L k)))) ∧ hi ≤ gx ∧ ga < gx
theorem cutA_new {w0 W : World} {lo hi b rb gp ga g4 : Nat} {K : Int} {T T' : Nat → Int} {L L' : Nat → List Nat} {N : List Int} {held' : List Nat} {p' : Nat → Th} {k1 k2 k3 k4 k5 : Int} {d : Bool} (hT : TS w0 lo hi b rb gp ga K T' L' N held' p' W) (hO : HdOut T T' L L' k1 k3 d) (hC : ∀ k, k ≤ 3 → W.cell? ⟨g4, k, none⟩ = some (.int .u64 (T k * 65536 + hd (L k)))) (lg : g4 < W.heap.size) :
    CutA w0 lo hi b rb gp ga K T L N g4 (.pointer (some ⟨W.heap.size, 0, none⟩)) (W.alloc (.cells #[.int .i64 k1, .int .i64 k2, .int .i64 k3, .int .u64 k4, .int .u64 k5, .bool d] 50)) :=
  ⟨W.heap.size, k1, k2, k3, k4, k5, d, T', L', held', p', rfl, Mem.new W 50 #[.int .i64 k1, .int .i64 k2, .int .i64 k3, .int .u64 k4, .int .u64 k5, .bool d], hT.below (below_new W _), hO, fun k hk => (World.cell?_of_block ((below_new W _).block g4 lg)).trans (hC k hk), hT.core.fl.top, hT.ap.lt⟩
theorem cutA_set {w0 W : World} {lo hi b rb gp ga g4 z : Nat} {K : Int} {T T' : Nat → Int} {L L' : Nat → List Nat} {N : List Int} {held' : List Nat} {p' : Nat → Th} {k1 k2 k3 k4 k5 : Int} {d : Bool} (hT : TS w0 lo hi b rb gp ga K T' L' N held' p' W) (hO : HdOut T T' L L' k1 k3 d) (hC : ∀ k, k ≤ 3 → W.cell? ⟨g4, k, none⟩ = some (.int .u64 (T k * 65536 + hd (L k)))) (lg : g4 < W.heap.size) (hz : Mem W z 50 #[.int .i64 0, .int .i64 0, .int .i64 0, .int .u64 0, .int .u64 0, .bool false]) (h1 : hi ≤ z) (h2 : ga < z) (h3 : g4 ≠ z) (h4 : ∀ t, t ≤ 3 → gOf (p' t) ≠ some z) :
    CutA w0 lo hi b rb gp ga K T L N g4 (.pointer (some ⟨z, 0, none⟩)) ((((((W.setCell ⟨z, 0, none⟩ (.int .i64 k1)).setCell ⟨z, 1, none⟩ (.int .i64 k2)).setCell ⟨z, 2, none⟩ (.int .i64 k3)).setCell ⟨z, 3, none⟩ (.int .u64 k4)).setCell ⟨z, 4, none⟩ (.int .u64 k5)).setCell ⟨z, 5, none⟩ (.bool d)) := by
  have S6 := store6 hz (.int .i64 k1) (.int .i64 k2) (.int .i64 k3) (.int .u64 k4) (.int .u64 k5) (.bool d)
  have F6 := Fr.of_stay (P := fun x => x = z) S6.2 (fun x a c => by omega)
  exact ⟨z, k1, k2, k3, k4, k5, d, T', L', held', p', rfl, S6.1, hT.side F6 (fun x hx => by subst hx; exact ⟨h2, h4⟩), hO, fun k hk => fr_cell F6 (hC k hk) lg h3, h1, h2⟩
theorem drew_cell {W : World} {a : Addr} {v : Option Value} (h : W.cell? a = v) : W.drew.cell? a = v := h
theorem alloc_cell {W : World} {g i : Nat} {v : Option Value} (o : Obj) (h : W.cell? ⟨g, i, none⟩ = v) (hl : g < W.heap.size) : (W.alloc o).cell? ⟨g, i, none⟩ = v := (World.cell?_of_block ((below_new W o).block g hl)).trans h

theorem readable : ∀ t ∈ Try.f7.params.toList, Try.prog.readableRec t = true ∧ t < Try.prog.types.size := by
  have h : (Try.f7.params.toList.all fun t => Try.prog.readableRec t && decide (t < Try.prog.types.size)) = true := by kernel_rfl
  intro t ht
  have := List.all_eq_true.1 h t ht
  simpa using this

/-! The walk. -/
theorem walk (w : World) (A0 : Option Addr) (n0 c0 : Nat) (z0 : List Int) (l0 : n0 ≤ c0) (m0 : c0 ≤ maxLen) (s0 : Ints .i64 w A0 n0 z0) (A1 : Option Addr) (n1 c1 : Nat) (z1 : List Int) (l1 : n1 ≤ c1) (m1 : c1 ≤ maxLen) (s1 : Ints .i64 w A1 n1 z1) :
    Calls Try.prog 7 #[.slice A0 n0 c0, .slice A1 n1 c1] w fun e w' => e = .returned (.bool true) ∧ Kept w w' := by
  have HZ0 := Lib.hid s0
  have HZ1 := Lib.hid s1
  clear s0 s1
  go_enter Try.func7, Try.ntmps7
  by_cases hbig : (60 : Int) < n1
  · go_wp2_with fail
    refine (FreL.l_awake _).mono ?_
    rintro e w3 ⟨rfl, hb1⟩
    have HB1 := Lib.hid hb1
    clear hb1
    go_wp2
    go_ret
    exact ⟨rfl, .of_below HB1.out⟩
  · have hn80 : (n1 : Int) ≤ 60 := by omega
    clear hbig
    go_upto_region 6 with (first | (go_at_call 14; refine (l_heap _).mono ?_; rintro e w0 ⟨rfl, hb0⟩; have HB0 := Lib.hid hb0) | (go_at_call 13; refine (l_startn hq (Lib.hid hq_valid) 4 (by decide) (by decide) _).mono ?_; rintro e w1 ⟨A, lo, hi, b, rb, rfl, hst⟩))
    have S0 : Hid (Fl w0 lo hi b rb false T0 L0 N0 w1) := Lib.hid (by obtain ⟨⟨A, B, h1, h2, h3, h4, h5, h6, h7⟩, h8, h9⟩ := fl_begun hst; exact ⟨⟨A, B, h1, h2, h3, h4, h5, h6, fun h => by cases h⟩, h8, h9⟩)
    have hlo := S0.out.lo
    have hle := S0.out.le
    have htop := S0.out.top
    clear hst hb0
    go_upto_region 7 with (fail)
    have HG : Hid (TS w0 lo hi b rb w1.heap.size (w1.heap.size + 1) 0 T0 L0 N0 [] (fun _ => .idle) ((w1.alloc (.cells #[.pointer (some ⟨b, 0, none⟩), .pointer (some ⟨rb, 0, none⟩)] TP)).alloc (.cells #[.pointer none, .pointer none, .pointer none, .pointer none] TAp))) := Lib.hid ⟨⟨(S0.out.alloc _).alloc _, inv0, by omega, fun _ _ => trivial, fun t g _ h => (by cases h), fun t u g _ _ _ h => (by cases h)⟩, (Mem.new w1 TP #[.pointer (some ⟨b, 0, none⟩), .pointer (some ⟨rb, 0, none⟩)]).alloc _, mem_new1 w1 (.cells #[.pointer (some ⟨b, 0, none⟩), .pointer (some ⟨rb, 0, none⟩)] TP) TAp #[.pointer none, .pointer none, .pointer none, .pointer none], fun _ _ => rfl, by omega⟩
    obtain ⟨gp, hgp⟩ : ∃ gp, w1.heap.size = gp := ⟨_, rfl⟩
    obtain ⟨ga, hga⟩ : ∃ ga, gp + 1 = ga := ⟨_, rfl⟩
    rw [hgp, hga] at HG
    first | rw [hgp] | skip
    first | rw [hga] | skip
    obtain ⟨W1, hW⟩ : ∃ W', (w1.alloc (.cells #[.pointer (some ⟨b, 0, none⟩), .pointer (some ⟨rb, 0, none⟩)] TP)).alloc (.cells #[.pointer none, .pointer none, .pointer none, .pointer none] TAp) = W' := ⟨_, rfl⟩
    rw [hW] at HG
    first | rw [hW] | skip
    clear hW hgp hga S0 htop
    go_wp2_with fail
    go_loopw [8, 9] (fun nv iv wr => ∃ (i nn : Nat) (T : Nat → Int) (L : Nat → List Nat) (N : List Int) (held : List Nat) (p : Nat → Th), iv = .int .i64 i ∧ nv = .int .i64 nn ∧ nn ≤ i ∧ i ≤ n1 ∧ TS w0 lo hi b rb gp ga i T L N held p wr) (fun _ iv _ => n1 - (intOf iv).toNat)
    case atStart => exact ⟨0, 0, T0, L0, N0, [], _, rfl, rfl, by omega, by omega, HG.out⟩
    case round =>
      clear HG
      obtain ⟨i, nn, T, L, N, held, p, rfl, rfl, hni, hi1, hks⟩ := hrel
      have HG := Lib.hid hks
      clear hks
      by_cases hlt : i < n1
      · have hltI : (i : Int) < n1 := by omega
        obtain ⟨tb, toff, tx, rfl, htb, htc⟩ := iat HZ1.out (below_trans2 HB0.out HG.out.core.fl.old) hlt
        obtain ⟨t, ht⟩ : ∃ t : Nat, pl tx 4 = t := ⟨(pl tx 4).toNat, by have := pl_in tx 4 (by decide) (by decide); omega⟩
        have ht4 : (t : Int) < 4 := by have := pl_in tx 4 (by decide) (by decide); omega
        have t3 : t ≤ 3 := by omega
        have hpl := k_place tx 4 t (by decide) (by decide) ht
        go_upto_region 12 with (go_at_call 15; (with_reducible refine (hpl _).mono ?_); rintro e w9 ⟨rfl, rfl⟩)
        have hod := HG.out.od
        have hap : wr.cell? ⟨ga, t, none⟩ = some (ppv (p t)) := arr_at (f := fun u => ppv (p u)) HG.out.ap t3
        have hgal := HG.out.ap.lt
        have hnp := HG.out.np t t3
        clear hpl ht htc
        rcases ho : p t with _ | ⟨g, st, c, x, n⟩ | ⟨g, st, c, bk, x⟩
        · rw [ho] at hap
          have hap2 : wr.cell? ⟨ga, t, none⟩ = some (.pointer none) := hap
          clear hap
          have hB0 := below_trans2 HB0.out HG.out.core.fl.old
          have hat := k_at c0 HZ0.out hB0 (nn + 1)
          rw [show ((nn + 1 : Nat) : Int) = (nn : Int) + 1 by omega] at hat
          have hfal : ∀ o, (wr.alloc o).cell? ⟨ga, t, none⟩ = some (.pointer none) := fun o => (World.cell?_of_block ((below_new wr o).block ga HG.out.ap.lt)).trans hap2
          have hfaz : ∀ o, (wr.alloc o).frozen? ⟨ga, t, none⟩ = false := fun o => ((HG.out.below (below_new wr o)).ap).frozen t
          clear hB0
          go_upto_region 17 with (first
            | (go_at_call 19; (with_reducible refine hat.mono ?_); rintro e w9 ⟨v9, rfl, rfl⟩)
            | (go_at_call 15; (with_reducible refine (k_place_ex v9 4 (by omega) (by omega) _).mono ?_); rintro e w9 ⟨u, u0, u1, rfl, rfl⟩)
            | (go_at_call 20; (with_reducible refine (p_new u _).mono ?_); rintro e w10 ⟨rfl, rfl⟩; have hal := hfal (.cells #[.int .i64 0, .int .i64 u, .int .u64 0, .int .i64 0, .int .i64 (-1)] TP1); have haz := hfaz (.cells #[.int .i64 0, .int .i64 u, .int .u64 0, .int .i64 0, .int .i64 (-1)] TP1)))
          obtain ⟨cc, hcc⟩ : ∃ cc : Nat, u = cc := ⟨u.toNat, by omega⟩
          subst hcc
          have HC2 := core_new (o := .pop wr.heap.size 0 cc 0 0) HG.out.core t3 (below_new wr (.cells #[.int .i64 0, .int .i64 cc, .int .u64 0, .int .i64 0, .int .i64 (-1)] TP1)) (by omega) (Nat.le_refl _) rfl ⟨by omega, -1, fun _ => rfl, Mem.new wr TP1 (oBox 0 cc 0 0 (-1))⟩ (HG.out.core.inv.turn t3 (by rw [hnp]; rfl) ⟨by omega, .inl (.inl rfl)⟩)
          have HT2 : TS w0 lo hi b rb gp ga i T L N held (up p t (.pop wr.heap.size 0 cc 0 0)) ((wr.alloc (.cells #[.int .i64 0, .int .i64 cc, .int .u64 0, .int .i64 0, .int .i64 (-1)] TP1)).setCell ⟨ga, t, none⟩ (.pointer (some ⟨wr.heap.size, 0, none⟩))) := by
            have hF := (Fr.refl (fun x => x = ga) (wr.alloc (.cells #[.int .i64 0, .int .i64 cc, .int .u64 0, .int .i64 0, .int .i64 (-1)] TP1))).set_ ⟨ga, t, none⟩ (.inl rfl) (.pointer (some ⟨wr.heap.size, 0, none⟩))
            refine ⟨HC2.side hF (fun x e => by omega), (HG.out.pm.alloc _).far (by show gp ≠ ga; omega) _, ?_, fun u hu => ?_, hod⟩
            · have h := (HG.out.ap.alloc (.cells #[.int .i64 0, .int .i64 cc, .int .u64 0, .int .i64 0, .int .i64 (-1)] TP1)).set_ t (.pointer (some ⟨wr.heap.size, 0, none⟩))
              rw [A4_set _ t3] at h
              exact A4_congr (fun u _ => fup rfl) ▸ h
            · by_cases e : u = t
              · subst e
                rw [up_at]
                rfl
              · rw [up_ne e]
                exact HG.out.np u hu
          rw [World.setCell_alloc_past _ _ _ _ hgal] at HT2
          have HT := Lib.hid HT2
          have hg0 : wr.heap.size = wr.heap.size := rfl
          obtain ⟨WT, hWT⟩ : ∃ WT, (wr.setCell ⟨ga, t, none⟩ (.pointer (some ⟨wr.heap.size, 0, none⟩))).alloc (.cells #[.int .i64 0, .int .i64 cc, .int .u64 0, .int .i64 0, .int .i64 (-1)] TP1) = WT := ⟨_, rfl⟩
          rw [hWT] at HT
          first | rw [hWT] | skip
          clear HG HC2 HT2 hal haz hfal hfaz hat hgal hg0 hWT hap2
          obtain ⟨gq, hgq⟩ : ∃ gq, wr.heap.size = gq := ⟨_, rfl⟩
          rw [hgq] at HT
          first | rw [hgq] | skip
          clear hgq
          have hp := up_at p t (.pop gq 0 cc 0 0)
          obtain ⟨p2, hp2⟩ : ∃ p2, up p t (.pop gq 0 cc 0 0) = p2 := ⟨_, rfl⟩
          rw [hp2] at HT hp
          have hnn : nn + 1 ≤ i + 1 := by omega
          have hst : (0 : Nat) ≤ 2 := by omega
          clear hp2 hni
          have hpm := HT.out.pm.cell 0
          simp at hpm
          have hgb := HT.out.core.gb t gq t3 (by rw [hp]; rfl)
          have hgl := mbox_lt (HT.out.core.en t t3) (by rw [hp]; rfl)
          have hIm := f_heads HT.out.core.fl
          have hf6 := img6
          go_upto_region 18 with (go_at_call 30; (with_reducible refine hIm.mono ?_); rintro e w7 ⟨i1, i2, i3, i5, m1, m2, m3, m5, q1, q2, q3, q4, q5, c', tt, s, g4, rfl, hB4, hl4, hc4, hfl, hS⟩)
          have HT7 := Lib.hid (HT.out.stay hS hfl)
          have HC4 := Lib.hid hc4
          have hW7 : WT.heap.size ≤ w7.heap.size := hS.size
          clear HT hIm hpm hc4 hfl hS
          have hap7 : w7.cell? ⟨ga, t, none⟩ = some (.pointer (some ⟨gq, 0, none⟩)) := (arr_at (f := fun u => ppv (p2 u)) HT7.out.ap t3).trans (by rw [hp]; rfl)
          have hpm7 : w7.cell? ⟨gp, 0, none⟩ = some (.pointer (some ⟨b, 0, none⟩)) := HT7.out.pm.cell 0
          have HBT := Lib.hid (show ∀ k, k ≤ 3 → (0 ≤ T k ∧ T k ≤ i) ∧ (0 ≤ hd (L k) ∧ hd (L k) ≤ 6) from fun k hk => ⟨HT7.out.core.inv.T0 k hk, HT7.out.core.inv.top hk⟩)
          go_cut [12] (fun pv wc => CutA w0 lo hi b rb gp ga (i + 1) T L N g4 pv wc)
          case first =>
            have hs0 : (fun W : World => W.cell? ⟨ga, t, none⟩ = some (.pointer (some ⟨gq, 0, none⟩)) ∧ W.cell? ⟨gp, 0, none⟩ = some (.pointer (some ⟨b, 0, none⟩))) w7.drew := ⟨hap7, hpm7⟩
            have hs1 : (fun W : World => W.cell? ⟨ga, t, none⟩ = some (.pointer (some ⟨gq, 0, none⟩)) ∧ W.cell? ⟨gp, 0, none⟩ = some (.pointer (some ⟨b, 0, none⟩))) (w7.alloc (.cells #[.int .i64 0, .int .i64 0, .int .i64 0, .int .u64 0, .int .u64 0, .bool false] 50)).drew := ⟨(World.cell?_of_block ((below_new w7 (.cells #[.int .i64 0, .int .i64 0, .int .i64 0, .int .u64 0, .int .u64 0, .bool false] 50)).block ga HT7.out.ap.lt)).trans hap7, (World.cell?_of_block ((below_new w7 (.cells #[.int .i64 0, .int .i64 0, .int .i64 0, .int .u64 0, .int .u64 0, .bool false] 50)).block gp HT7.out.pm.lt)).trans hpm7⟩
            have HD1 := Lib.hid (HT7.out.below (below_drewN (Below.refl _ w7) 1))
            rw [show w7.drewN 1 = w7.drew from rfl] at HD1
            have HD2 := Lib.hid ((HT7.out.below (below_new w7 (.cells #[.int .i64 0, .int .i64 0, .int .i64 0, .int .u64 0, .int .u64 0, .bool false] 50))).below (below_drewN (Below.refl _ (w7.alloc (.cells #[.int .i64 0, .int .i64 0, .int .i64 0, .int .u64 0, .int .u64 0, .bool false] 50))) 1))
            rw [show (w7.alloc (.cells #[.int .i64 0, .int .i64 0, .int .i64 0, .int .u64 0, .int .u64 0, .bool false] 50)).drewN 1 = (w7.alloc (.cells #[.int .i64 0, .int .i64 0, .int .i64 0, .int .u64 0, .int .u64 0, .bool false] 50)).drew from rfl] at HD2
            have hc := ts_step HD1.out (by omega) t3 hp hst
            have hc2 := ts_step HD2.out (by omega) t3 hp hst
            have hz7 : Mem (w7.alloc (.cells #[.int .i64 0, .int .i64 0, .int .i64 0, .int .u64 0, .int .u64 0, .bool false] 50)).drew w7.heap.size 50 #[.int .i64 0, .int .i64 0, .int .i64 0, .int .u64 0, .int .u64 0, .bool false] := (Mem.new w7 50 #[.int .i64 0, .int .i64 0, .int .i64 0, .int .u64 0, .int .u64 0, .bool false]).drewN 1
            have hsz7 : (w7.alloc (.cells #[.int .i64 0, .int .i64 0, .int .i64 0, .int .u64 0, .int .u64 0, .bool false] 50)).drew.heap.size = w7.heap.size + 1 := size_new _ _
            have hga7 := HT7.out.ap.lt
            have hgp7 := HT7.out.pm.lt
            have htop7 := HT7.out.core.fl.top
            have hgr7 := Lib.hid hsz7
            have np1 : ¬ PG lo hi gq ga := by unfold PG; omega
            have np2 : ¬ PG lo hi gq gp := by unfold PG; omega
            have np3 : ¬ PG lo hi gq w7.heap.size := by unfold PG; omega
            have la2 : ga < (w7.alloc (.cells #[.int .i64 0, .int .i64 0, .int .i64 0, .int .u64 0, .int .u64 0, .bool false] 50)).drew.heap.size := by rw [hsz7]; omega
            have lp2 : gp < (w7.alloc (.cells #[.int .i64 0, .int .i64 0, .int .i64 0, .int .u64 0, .int .u64 0, .bool false] 50)).drew.heap.size := by rw [hsz7]; omega
            have hka := fun W' (k1 k2 k3 k4 k5 : Int) (d : Bool) hF => ka_row (W' := W') hs0 hga7 hgp7 np1 np2 k1 k2 k3 k4 k5 d hF
            have hkb := fun W' (k1 k2 k3 k4 k5 : Int) (d : Bool) hF => kb_row (W' := W') hs1 la2 lp2 np1 np2 hz7 np3 (by omega) (by omega) k1 k2 k3 k4 k5 d hF
            have hn4 : ¬ PG lo hi gq g4 := by unfold PG; omega
            have hi7 : hi ≤ w7.heap.size := htop7
            have HL4 := Lib.hid (show g4 < (w7.alloc (.cells #[.int .i64 0, .int .i64 0, .int .i64 0, .int .u64 0, .int .u64 0, .bool false] 50)).drew.heap.size by rw [hsz7]; omega)
            have HKA := Lib.hid hka
            have HKB := Lib.hid hkb
            have HZ7 := Lib.hid hz7
            have HSZ7 := Lib.hid hsz7
            have HC1 := Lib.hid hc
            have HC2 := Lib.hid hc2
            clear hap7 hpm7 hka hkb hz7 hsz7 hc hc2 hgr7 np1 np2 np3 la2 lp2
            go_region_held3 (fun W : World => W.cell? ⟨ga, t, none⟩ = some (.pointer (some ⟨gq, 0, none⟩)) ∧ W.cell? ⟨gp, 0, none⟩ = some (.pointer (some ⟨b, 0, none⟩))) (first | (with_reducible exact hs0) | (with_reducible exact hs1) | (with_reducible assumption)) (first
              | (go_at_call 22; (with_reducible refine HC1.out.mono ?_); rintro e w5 ⟨k1, k2, k3, k4, k5, d, T', L', held', p', rfl, hF, hTS, hO, hG⟩; obtain ⟨e1, e2, e3⟩ := HKA.out _ k1 k2 k3 k4 k5 d hF; have HF := Lib.hid hF; have HTS := Lib.hid hTS; have HO := Lib.hid hO; have HGG := Lib.hid hG; clear hF hTS hO hG)
              | (go_at_call 22; (with_reducible refine HC2.out.mono ?_); rintro e w5 ⟨k1, k2, k3, k4, k5, d, T', L', held', p', rfl, hF, hTS, hO, hG⟩; obtain ⟨e1, e2, hz5⟩ := HKB.out _ k1 k2 k3 k4 k5 d hF; have d0 := hz5.cell 0; have d1 := hz5.cell 1; have d2 := hz5.cell 2; have d3 := hz5.cell 3; have d4 := hz5.cell 4; have d5 := hz5.cell 5; have df := hz5.frozen; have HZ5 := Lib.hid hz5; have HF := Lib.hid hF; have HTS := Lib.hid hTS; have HO := Lib.hid hO; have HGG := Lib.hid hG; clear hF hTS hO hG hz5))
            all_goals go_wp2_with fail
            all_goals go_meet
            · exact cutA_new HTS.out HO.out (fun k hk => fr_cell HF.out (drew_cell (HC4.out k hk)) hl4 hn4) (Nat.lt_of_lt_of_le hl4 HF.out.size)
            · exact cutA_set HTS.out HO.out (fun k hk => fr_cell HF.out (drew_cell (alloc_cell _ (HC4.out k hk) hl4)) HL4.out hn4) (Nat.lt_of_lt_of_le HL4.out HF.out.size) HZ5.out hi7 hga7 (Nat.ne_of_lt hl4) (fun u hu hq => absurd (mbox_lt (HT7.out.core.en u hu) ((HGG.out u hu).symm.trans hq)) (Nat.lt_irrefl _))
          case rest =>
            obtain ⟨gx, k1, k2, k3, k4, k5, d, T', L', held', p', rfl, hX8, hT8, hO8, hC8, hxh, hxa⟩ := hcut
            have HX := Lib.hid hX8
            have HT8 := Lib.hid hT8
            have HO := Lib.hid hO8
            have HC8 := Lib.hid hC8
            clear hX8 hT8 hO8 hC8
            clear HT7 HC4 hap7 hpm7
            have hpm := HT8.out.pm.cell 0
            simp at hpm
            have hIm := f_heads HT8.out.core.fl
            go_upto_region 20 with (go_at_call 30; (with_reducible refine hIm.mono ?_); rintro e w9 ⟨j1, j2, j3, j5, o1, o2, o3, o5, r1, r2, r3, r4, r5, c'', t'', s'', g5, rfl, hB5, hl5, hc5, hfl, hS⟩)
            have HT9 := Lib.hid (HT8.out.stay hS hfl)
            have HX9 := Lib.hid (Mem.of_eq HX.out (hS.block gx HX.out.lt (.inr hxh)))
            have HC9 : Hid (∀ k, k ≤ 3 → w9.cell? ⟨g4, k, none⟩ = some (.int .u64 (T k * 65536 + hd (L k)))) := Lib.hid fun k hk => (World.cell?_of_block (hS.block g4 (World.block_lt_of_cell? _ _ (HC8.out 0 (by omega))) (.inr (by have := hod; omega)))).trans (HC8.out k hk)
            have HD9 := Lib.hid hc5
            clear HT8 HX HC8 hIm hpm hfl hS hc5
            go_wp2_with fail
            go_loopw [14] (fun kv wr => ∃ k : Nat, k ≤ 4 ∧ kv = .int .i64 k ∧ ∃ nd, wr = w9.drewN nd) (fun kv _ => 4 - (intOf kv).toNat)
            case atStart => exact ⟨0, by omega, rfl, 0, rfl⟩
            case round =>
              obtain ⟨k, hk4, rfl, hwd⟩ := hrel
              have HW := Lib.hid hwd
              clear hwd
              by_cases hkl : k < 4
              · have hkI : (k : Int) < 4 := by omega
                have k3' : k ≤ 3 := by omega
                have x0 : wr.cell? ⟨gx, 0, none⟩ = some (.int .i64 k1) := by obtain ⟨nd, e⟩ := HW.out; rw [e]; exact HX9.out.cell 0
                have x2 : wr.cell? ⟨gx, 2, none⟩ = some (.int .i64 k3) := by obtain ⟨nd, e⟩ := HW.out; rw [e]; exact HX9.out.cell 2
                have x5 : wr.cell? ⟨gx, 5, none⟩ = some (.bool d) := by obtain ⟨nd, e⟩ := HW.out; rw [e]; exact HX9.out.cell 5
                have y4 : wr.cell? ⟨g4, k, none⟩ = some (.int .u64 (T k * 65536 + hd (L k))) := by obtain ⟨nd, e⟩ := HW.out; rw [e]; exact HC9.out k k3'
                have y5 : wr.cell? ⟨g5, k, none⟩ = some (.int .u64 (T' k * 65536 + hd (L' k))) := by obtain ⟨nd, e⟩ := HW.out; rw [e]; exact HD9.out k k3'
                obtain ⟨⟨bt0, bt1⟩, bh0, bh1⟩ := HBT.out k k3'
                have hcase : (T k * 65536 + hd (L k) = T' k * 65536 + hd (L' k) ∧ ¬ (k1 = 3 ∧ d = true ∧ k3 = k)) ∨ (T' k = T k + 1 ∧ k1 = 3 ∧ d = true ∧ k3 = k) := by
                  rcases HO.out with ⟨e1, e2, e3⟩ | ⟨c, l, c3, e1, e2, e3, e4, e5⟩
                  · left
                    rw [e1, e2]
                    exact ⟨rfl, fun h => e3 ⟨h.1, h.2.1⟩⟩
                  · by_cases e : k = c
                    · right
                      subst e
                      rw [e4, up_at]
                      exact ⟨rfl, e1, e2, e3⟩
                    · left
                      rw [e4, e5, up_ne e, up_ne e]
                      exact ⟨rfl, fun h => e (by have := h.2.2; omega)⟩
                obtain ⟨ct0, ct1⟩ := HT9.out.core.inv.T0 k k3'
                obtain ⟨ch0, ch1⟩ := HT9.out.core.inv.top k3'
                obtain ⟨v, hv⟩ : ∃ v, T k * 65536 + hd (L k) = v := ⟨_, rfl⟩
                obtain ⟨v2, hv2⟩ : ∃ v2, T' k * 65536 + hd (L' k) = v2 := ⟨_, rfl⟩
                have vb0 : 0 ≤ v := by omega
                have vb1 : v ≤ 18446744073709551615 := by omega
                have vc0 : 0 ≤ v2 := by omega
                have vc1 : v2 ≤ 18446744073709551615 := by omega
                have hvd : (v = v2 ∧ ¬ (k1 = 3 ∧ d = true ∧ k3 = k)) ∨ ((v2 / 65536 = v / 65536 + 1 ∧ v ≠ v2 ∧ v / 65536 ≤ 1000000) ∧ k1 = 3 ∧ d = true ∧ k3 = k) := by
                  rcases hcase with ⟨e1, e2⟩ | ⟨e1, e2⟩
                  · exact .inl ⟨by omega, e2⟩
                  · exact .inr ⟨by omega, e2⟩
                rw [hv] at y4
                rw [hv2] at y5
                clear hcase hv hv2 bt0 bt1 bh0 bh1 ct0 ct1 ch0 ch1
                rcases hvd with ⟨rfl, e2⟩ | ⟨⟨e5, e6, e7⟩, rfl, rfl, rfl⟩
                · by_cases q1 : k1 = 3
                  · subst q1
                    cases d
                    · clear e2
                      go_upto_region 25 with (fail)
                      go_quiet (fail)
                      go_upto_region 26 with (fail)
                      go_quiet (fail)
                      go_wp2_with fail
                      go_roundw
                      case rel =>
                        obtain ⟨nd, rfl⟩ := HW.out
                        exact ⟨k + 1, by omega, by go_num, by simp only [World.drewN_drewN]; exact ⟨_, rfl⟩⟩
                      case measure => simp [intOf]; omega
                    · have q3 : ¬ k3 = (k : Int) := fun h => e2 ⟨rfl, rfl, h⟩
                      have q6 : (k3 == (k : Int)) = false := by simpa using q3
                      clear e2
                      go_upto_region 25 with (fail)
                      go_quiet (fail)
                      go_upto_region 26 with (fail)
                      go_quiet (fail)
                      go_wp2_with fail
                      go_roundw
                      case rel =>
                        obtain ⟨nd, rfl⟩ := HW.out
                        exact ⟨k + 1, by omega, by go_num, by simp only [World.drewN_drewN]; exact ⟨_, rfl⟩⟩
                      case measure => simp [intOf]; omega
                  · have q6 : (k1 == 3) = false := by simpa using q1
                    clear e2
                    go_upto_region 25 with (fail)
                    go_quiet (fail)
                    go_upto_region 26 with (fail)
                    go_quiet (fail)
                    go_wp2_with fail
                    go_roundw
                    case rel =>
                      obtain ⟨nd, rfl⟩ := HW.out
                      exact ⟨k + 1, by omega, by go_num, by simp only [World.drewN_drewN]; exact ⟨_, rfl⟩⟩
                    case measure => simp [intOf]; omega
                · have hw1 : IntKind.i64.wrap (v / 65536 + 1) = v / 65536 + 1 := IntWalk.i64_in _ (by omega)
                  have q6 : (v == v2) = false := by simpa using e6
                  have q7 : ((k : Int) == k) = true := by simp
                  have q9 : (v != v2) = true := by simpa using e6
                  have ht1 : ∀ W, Calls Try.prog 35 #[.int .u64 v] W fun e w' => e = .returned (.int .i64 (v / 65536)) ∧ w' = W := fun W => (r_tag v vb0 vb1 W).mono fun _ _ h => ⟨h.1, h.2.symm⟩
                  have ht2 : ∀ W, Calls Try.prog 35 #[.int .u64 v2] W fun e w' => e = .returned (.int .i64 (v / 65536 + 1)) ∧ w' = W := fun W => (r_tag v2 vc0 vc1 W).mono fun _ _ h => ⟨by rw [h.1, e5], h.2.symm⟩
                  clear e5 e6 e7
                  have HT1 := Lib.hid ht1
                  have HT2 := Lib.hid ht2
                  clear ht1 ht2
                  go_upto_region 25 with (fail)
                  go_quiet (fail)
                  have HW2 := Lib.hid (show ∃ nd, wr.drewN nq = w9.drewN nd by obtain ⟨nd, e⟩ := HW.out; exact ⟨nd + nq, by rw [e, World.drewN_drewN]⟩)
                  have z0 : (wr.drewN nq).cell? ⟨gx, 0, none⟩ = some (.int .i64 3) := x0
                  have z2 : (wr.drewN nq).cell? ⟨gx, 2, none⟩ = some (.int .i64 k) := x2
                  have z5 : (wr.drewN nq).cell? ⟨gx, 5, none⟩ = some (.bool true) := x5
                  have u4 : (wr.drewN nq).cell? ⟨g4, k, none⟩ = some (.int .u64 v) := y4
                  have u5 : (wr.drewN nq).cell? ⟨g5, k, none⟩ = some (.int .u64 v2) := y5
                  clear x0 x2 x5 y4 y5
                  obtain ⟨wz, hwz⟩ : ∃ wz, wr.drewN nq = wz := ⟨_, rfl⟩
                  rw [hwz] at HW2 z0 z2 z5 u4 u5 ⊢
                  clear hwz HW
                  go_upto_region 26 with (fail)
                  go_quiet (first | (go_at_call 35; exact Calls.quiet_of_same (HT2.out _)) | (go_at_call 35; exact Calls.quiet_of_same (HT1.out _)))
                  go_wp2_with fail
                  go_roundw
                  case rel =>
                    obtain ⟨nd, rfl⟩ := HW2.out
                    exact ⟨k + 1, by omega, by go_num, by simp only [World.drewN_drewN]; exact ⟨_, rfl⟩⟩
                  case measure => simp [intOf]; omega
              · obtain rfl : k = 4 := by omega
                go_wp2_with fail
                go_roundw
                case rel =>
                  obtain ⟨nd, rfl⟩ := HW.out
                  exact ⟨i + 1, (nn + 1), T', L', N, held', p', by go_num, by first | rfl | (congr 1; omega), by omega, by omega, HT9.out.below (below_drewN (Below.refl _ w9) nd)⟩
                case measure => simp [intOf]; omega
        · rw [ho] at hap
          have hap2 : wr.cell? ⟨ga, t, none⟩ = some (.pointer (some ⟨g, 0, none⟩)) := hap
          clear hap
          obtain ⟨hs3, bl, hbl, hM⟩ := (show mbox wr (.pop g st c x n) from ho ▸ HG.out.core.en t t3)
          have hdn := p_done g _ _ _ _ _ wr hM
          by_cases h3 : st = 3
          · subst h3
            have hdv : (((3 : Nat) : Int) == 3) = true := by decide
            rw [hdv] at hdn
            have hB0 := below_trans2 HB0.out HG.out.core.fl.old
            have hat := k_at c0 HZ0.out hB0 (nn + 1)
            rw [show ((nn + 1 : Nat) : Int) = (nn : Int) + 1 by omega] at hat
            have hfal : ∀ o, (wr.alloc o).cell? ⟨ga, t, none⟩ = some (.pointer (some ⟨g, 0, none⟩)) := fun o => (World.cell?_of_block ((below_new wr o).block ga HG.out.ap.lt)).trans hap2
            have hfaz : ∀ o, (wr.alloc o).frozen? ⟨ga, t, none⟩ = false := fun o => ((HG.out.below (below_new wr o)).ap).frozen t
            clear hB0
            go_upto_region 17 with (first
              | (go_at_call 24; (with_reducible refine hdn.mono ?_); rintro e w9 ⟨rfl, rfl⟩) | (go_at_call 19; (with_reducible refine hat.mono ?_); rintro e w9 ⟨v9, rfl, rfl⟩)
              | (go_at_call 15; (with_reducible refine (k_place_ex v9 4 (by omega) (by omega) _).mono ?_); rintro e w9 ⟨u, u0, u1, rfl, rfl⟩)
              | (go_at_call 20; (with_reducible refine (p_new u _).mono ?_); rintro e w10 ⟨rfl, rfl⟩; have hal := hfal (.cells #[.int .i64 0, .int .i64 u, .int .u64 0, .int .i64 0, .int .i64 (-1)] TP1); have haz := hfaz (.cells #[.int .i64 0, .int .i64 u, .int .u64 0, .int .i64 0, .int .i64 (-1)] TP1)))
            obtain ⟨cc, hcc⟩ : ∃ cc : Nat, u = cc := ⟨u.toNat, by omega⟩
            subst hcc
            have HC2 := core_new (o := .pop wr.heap.size 0 cc 0 0) HG.out.core t3 (below_new wr (.cells #[.int .i64 0, .int .i64 cc, .int .u64 0, .int .i64 0, .int .i64 (-1)] TP1)) (by omega) (Nat.le_refl _) rfl ⟨by omega, -1, fun _ => rfl, Mem.new wr TP1 (oBox 0 cc 0 0 (-1))⟩ (HG.out.core.inv.turn t3 (by rw [hnp]; rfl) ⟨by omega, .inl (.inl rfl)⟩)
            have HT2 : TS w0 lo hi b rb gp ga i T L N held (up p t (.pop wr.heap.size 0 cc 0 0)) ((wr.alloc (.cells #[.int .i64 0, .int .i64 cc, .int .u64 0, .int .i64 0, .int .i64 (-1)] TP1)).setCell ⟨ga, t, none⟩ (.pointer (some ⟨wr.heap.size, 0, none⟩))) := by
              have hF := (Fr.refl (fun x => x = ga) (wr.alloc (.cells #[.int .i64 0, .int .i64 cc, .int .u64 0, .int .i64 0, .int .i64 (-1)] TP1))).set_ ⟨ga, t, none⟩ (.inl rfl) (.pointer (some ⟨wr.heap.size, 0, none⟩))
              refine ⟨HC2.side hF (fun x e => by omega), (HG.out.pm.alloc _).far (by show gp ≠ ga; omega) _, ?_, fun u hu => ?_, hod⟩
              · have h := (HG.out.ap.alloc (.cells #[.int .i64 0, .int .i64 cc, .int .u64 0, .int .i64 0, .int .i64 (-1)] TP1)).set_ t (.pointer (some ⟨wr.heap.size, 0, none⟩))
                rw [A4_set _ t3] at h
                exact A4_congr (fun u _ => fup rfl) ▸ h
              · by_cases e : u = t
                · subst e
                  rw [up_at]
                  rfl
                · rw [up_ne e]
                  exact HG.out.np u hu
            rw [World.setCell_alloc_past _ _ _ _ hgal] at HT2
            have HT := Lib.hid HT2
            have hg0 : wr.heap.size = wr.heap.size := rfl
            obtain ⟨WT, hWT⟩ : ∃ WT, (wr.setCell ⟨ga, t, none⟩ (.pointer (some ⟨wr.heap.size, 0, none⟩))).alloc (.cells #[.int .i64 0, .int .i64 cc, .int .u64 0, .int .i64 0, .int .i64 (-1)] TP1) = WT := ⟨_, rfl⟩
            rw [hWT] at HT
            first | rw [hWT] | skip
            clear hdn hM HG HC2 HT2 hal haz hfal hfaz hat hgal hg0 hWT hap2
            obtain ⟨gq, hgq⟩ : ∃ gq, wr.heap.size = gq := ⟨_, rfl⟩
            rw [hgq] at HT
            first | rw [hgq] | skip
            clear hgq
            have hp := up_at p t (.pop gq 0 cc 0 0)
            obtain ⟨p2, hp2⟩ : ∃ p2, up p t (.pop gq 0 cc 0 0) = p2 := ⟨_, rfl⟩
            rw [hp2] at HT hp
            have hnn : nn + 1 ≤ i + 1 := by omega
            have hst : (0 : Nat) ≤ 2 := by omega
            clear hp2 hni
            have hpm := HT.out.pm.cell 0
            simp at hpm
            have hgb := HT.out.core.gb t gq t3 (by rw [hp]; rfl)
            have hgl := mbox_lt (HT.out.core.en t t3) (by rw [hp]; rfl)
            have hIm := f_heads HT.out.core.fl
            have hf6 := img6
            go_upto_region 18 with (go_at_call 30; (with_reducible refine hIm.mono ?_); rintro e w7 ⟨i1, i2, i3, i5, m1, m2, m3, m5, q1, q2, q3, q4, q5, c', tt, s, g4, rfl, hB4, hl4, hc4, hfl, hS⟩)
            have HT7 := Lib.hid (HT.out.stay hS hfl)
            have HC4 := Lib.hid hc4
            have hW7 : WT.heap.size ≤ w7.heap.size := hS.size
            clear HT hIm hpm hc4 hfl hS
            have hap7 : w7.cell? ⟨ga, t, none⟩ = some (.pointer (some ⟨gq, 0, none⟩)) := (arr_at (f := fun u => ppv (p2 u)) HT7.out.ap t3).trans (by rw [hp]; rfl)
            have hpm7 : w7.cell? ⟨gp, 0, none⟩ = some (.pointer (some ⟨b, 0, none⟩)) := HT7.out.pm.cell 0
            have HBT := Lib.hid (show ∀ k, k ≤ 3 → (0 ≤ T k ∧ T k ≤ i) ∧ (0 ≤ hd (L k) ∧ hd (L k) ≤ 6) from fun k hk => ⟨HT7.out.core.inv.T0 k hk, HT7.out.core.inv.top hk⟩)
            go_cut [12] (fun pv wc => CutA w0 lo hi b rb gp ga (i + 1) T L N g4 pv wc)
            case first =>
              have hs0 : (fun W : World => W.cell? ⟨ga, t, none⟩ = some (.pointer (some ⟨gq, 0, none⟩)) ∧ W.cell? ⟨gp, 0, none⟩ = some (.pointer (some ⟨b, 0, none⟩))) w7.drew := ⟨hap7, hpm7⟩
              have hs1 : (fun W : World => W.cell? ⟨ga, t, none⟩ = some (.pointer (some ⟨gq, 0, none⟩)) ∧ W.cell? ⟨gp, 0, none⟩ = some (.pointer (some ⟨b, 0, none⟩))) (w7.alloc (.cells #[.int .i64 0, .int .i64 0, .int .i64 0, .int .u64 0, .int .u64 0, .bool false] 50)).drew := ⟨(World.cell?_of_block ((below_new w7 (.cells #[.int .i64 0, .int .i64 0, .int .i64 0, .int .u64 0, .int .u64 0, .bool false] 50)).block ga HT7.out.ap.lt)).trans hap7, (World.cell?_of_block ((below_new w7 (.cells #[.int .i64 0, .int .i64 0, .int .i64 0, .int .u64 0, .int .u64 0, .bool false] 50)).block gp HT7.out.pm.lt)).trans hpm7⟩
              have HD1 := Lib.hid (HT7.out.below (below_drewN (Below.refl _ w7) 1))
              rw [show w7.drewN 1 = w7.drew from rfl] at HD1
              have HD2 := Lib.hid ((HT7.out.below (below_new w7 (.cells #[.int .i64 0, .int .i64 0, .int .i64 0, .int .u64 0, .int .u64 0, .bool false] 50))).below (below_drewN (Below.refl _ (w7.alloc (.cells #[.int .i64 0, .int .i64 0, .int .i64 0, .int .u64 0, .int .u64 0, .bool false] 50))) 1))
              rw [show (w7.alloc (.cells #[.int .i64 0, .int .i64 0, .int .i64 0, .int .u64 0, .int .u64 0, .bool false] 50)).drewN 1 = (w7.alloc (.cells #[.int .i64 0, .int .i64 0, .int .i64 0, .int .u64 0, .int .u64 0, .bool false] 50)).drew from rfl] at HD2
              have hc := ts_step HD1.out (by omega) t3 hp hst
              have hc2 := ts_step HD2.out (by omega) t3 hp hst
              have hz7 : Mem (w7.alloc (.cells #[.int .i64 0, .int .i64 0, .int .i64 0, .int .u64 0, .int .u64 0, .bool false] 50)).drew w7.heap.size 50 #[.int .i64 0, .int .i64 0, .int .i64 0, .int .u64 0, .int .u64 0, .bool false] := (Mem.new w7 50 #[.int .i64 0, .int .i64 0, .int .i64 0, .int .u64 0, .int .u64 0, .bool false]).drewN 1
              have hsz7 : (w7.alloc (.cells #[.int .i64 0, .int .i64 0, .int .i64 0, .int .u64 0, .int .u64 0, .bool false] 50)).drew.heap.size = w7.heap.size + 1 := size_new _ _
              have hga7 := HT7.out.ap.lt
              have hgp7 := HT7.out.pm.lt
              have htop7 := HT7.out.core.fl.top
              have hgr7 := Lib.hid hsz7
              have np1 : ¬ PG lo hi gq ga := by unfold PG; omega
              have np2 : ¬ PG lo hi gq gp := by unfold PG; omega
              have np3 : ¬ PG lo hi gq w7.heap.size := by unfold PG; omega
              have la2 : ga < (w7.alloc (.cells #[.int .i64 0, .int .i64 0, .int .i64 0, .int .u64 0, .int .u64 0, .bool false] 50)).drew.heap.size := by rw [hsz7]; omega
              have lp2 : gp < (w7.alloc (.cells #[.int .i64 0, .int .i64 0, .int .i64 0, .int .u64 0, .int .u64 0, .bool false] 50)).drew.heap.size := by rw [hsz7]; omega
              have hka := fun W' (k1 k2 k3 k4 k5 : Int) (d : Bool) hF => ka_row (W' := W') hs0 hga7 hgp7 np1 np2 k1 k2 k3 k4 k5 d hF
              have hkb := fun W' (k1 k2 k3 k4 k5 : Int) (d : Bool) hF => kb_row (W' := W') hs1 la2 lp2 np1 np2 hz7 np3 (by omega) (by omega) k1 k2 k3 k4 k5 d hF
              have hn4 : ¬ PG lo hi gq g4 := by unfold PG; omega
              have hi7 : hi ≤ w7.heap.size := htop7
              have HL4 := Lib.hid (show g4 < (w7.alloc (.cells #[.int .i64 0, .int .i64 0, .int .i64 0, .int .u64 0, .int .u64 0, .bool false] 50)).drew.heap.size by rw [hsz7]; omega)
              have HKA := Lib.hid hka
              have HKB := Lib.hid hkb
              have HZ7 := Lib.hid hz7
              have HSZ7 := Lib.hid hsz7
              have HC1 := Lib.hid hc
              have HC2 := Lib.hid hc2
              clear hap7 hpm7 hka hkb hz7 hsz7 hc hc2 hgr7 np1 np2 np3 la2 lp2
              go_region_held3 (fun W : World => W.cell? ⟨ga, t, none⟩ = some (.pointer (some ⟨gq, 0, none⟩)) ∧ W.cell? ⟨gp, 0, none⟩ = some (.pointer (some ⟨b, 0, none⟩))) (first | (with_reducible exact hs0) | (with_reducible exact hs1) | (with_reducible assumption)) (first
                | (go_at_call 22; (with_reducible refine HC1.out.mono ?_); rintro e w5 ⟨k1, k2, k3, k4, k5, d, T', L', held', p', rfl, hF, hTS, hO, hG⟩; obtain ⟨e1, e2, e3⟩ := HKA.out _ k1 k2 k3 k4 k5 d hF; have HF := Lib.hid hF; have HTS := Lib.hid hTS; have HO := Lib.hid hO; have HGG := Lib.hid hG; clear hF hTS hO hG)
                | (go_at_call 22; (with_reducible refine HC2.out.mono ?_); rintro e w5 ⟨k1, k2, k3, k4, k5, d, T', L', held', p', rfl, hF, hTS, hO, hG⟩; obtain ⟨e1, e2, hz5⟩ := HKB.out _ k1 k2 k3 k4 k5 d hF; have d0 := hz5.cell 0; have d1 := hz5.cell 1; have d2 := hz5.cell 2; have d3 := hz5.cell 3; have d4 := hz5.cell 4; have d5 := hz5.cell 5; have df := hz5.frozen; have HZ5 := Lib.hid hz5; have HF := Lib.hid hF; have HTS := Lib.hid hTS; have HO := Lib.hid hO; have HGG := Lib.hid hG; clear hF hTS hO hG hz5))
              all_goals go_wp2_with fail
              all_goals go_meet
              · exact cutA_new HTS.out HO.out (fun k hk => fr_cell HF.out (drew_cell (HC4.out k hk)) hl4 hn4) (Nat.lt_of_lt_of_le hl4 HF.out.size)
              · exact cutA_set HTS.out HO.out (fun k hk => fr_cell HF.out (drew_cell (alloc_cell _ (HC4.out k hk) hl4)) HL4.out hn4) (Nat.lt_of_lt_of_le HL4.out HF.out.size) HZ5.out hi7 hga7 (Nat.ne_of_lt hl4) (fun u hu hq => absurd (mbox_lt (HT7.out.core.en u hu) ((HGG.out u hu).symm.trans hq)) (Nat.lt_irrefl _))
            case rest =>
              obtain ⟨gx, k1, k2, k3, k4, k5, d, T', L', held', p', rfl, hX8, hT8, hO8, hC8, hxh, hxa⟩ := hcut
              have HX := Lib.hid hX8
              have HT8 := Lib.hid hT8
              have HO := Lib.hid hO8
              have HC8 := Lib.hid hC8
              clear hX8 hT8 hO8 hC8
              clear HT7 HC4 hap7 hpm7
              have hpm := HT8.out.pm.cell 0
              simp at hpm
              have hIm := f_heads HT8.out.core.fl
              go_upto_region 20 with (go_at_call 30; (with_reducible refine hIm.mono ?_); rintro e w9 ⟨j1, j2, j3, j5, o1, o2, o3, o5, r1, r2, r3, r4, r5, c'', t'', s'', g5, rfl, hB5, hl5, hc5, hfl, hS⟩)
              have HT9 := Lib.hid (HT8.out.stay hS hfl)
              have HX9 := Lib.hid (Mem.of_eq HX.out (hS.block gx HX.out.lt (.inr hxh)))
              have HC9 : Hid (∀ k, k ≤ 3 → w9.cell? ⟨g4, k, none⟩ = some (.int .u64 (T k * 65536 + hd (L k)))) := Lib.hid fun k hk => (World.cell?_of_block (hS.block g4 (World.block_lt_of_cell? _ _ (HC8.out 0 (by omega))) (.inr (by have := hod; omega)))).trans (HC8.out k hk)
              have HD9 := Lib.hid hc5
              clear HT8 HX HC8 hIm hpm hfl hS hc5
              go_wp2_with fail
              go_loopw [14] (fun kv wr => ∃ k : Nat, k ≤ 4 ∧ kv = .int .i64 k ∧ ∃ nd, wr = w9.drewN nd) (fun kv _ => 4 - (intOf kv).toNat)
              case atStart => exact ⟨0, by omega, rfl, 0, rfl⟩
              case round =>
                obtain ⟨k, hk4, rfl, hwd⟩ := hrel
                have HW := Lib.hid hwd
                clear hwd
                by_cases hkl : k < 4
                · have hkI : (k : Int) < 4 := by omega
                  have k3' : k ≤ 3 := by omega
                  have x0 : wr.cell? ⟨gx, 0, none⟩ = some (.int .i64 k1) := by obtain ⟨nd, e⟩ := HW.out; rw [e]; exact HX9.out.cell 0
                  have x2 : wr.cell? ⟨gx, 2, none⟩ = some (.int .i64 k3) := by obtain ⟨nd, e⟩ := HW.out; rw [e]; exact HX9.out.cell 2
                  have x5 : wr.cell? ⟨gx, 5, none⟩ = some (.bool d) := by obtain ⟨nd, e⟩ := HW.out; rw [e]; exact HX9.out.cell 5
                  have y4 : wr.cell? ⟨g4, k, none⟩ = some (.int .u64 (T k * 65536 + hd (L k))) := by obtain ⟨nd, e⟩ := HW.out; rw [e]; exact HC9.out k k3'
                  have y5 : wr.cell? ⟨g5, k, none⟩ = some (.int .u64 (T' k * 65536 + hd (L' k))) := by obtain ⟨nd, e⟩ := HW.out; rw [e]; exact HD9.out k k3'
                  obtain ⟨⟨bt0, bt1⟩, bh0, bh1⟩ := HBT.out k k3'
                  have hcase : (T k * 65536 + hd (L k) = T' k * 65536 + hd (L' k) ∧ ¬ (k1 = 3 ∧ d = true ∧ k3 = k)) ∨ (T' k = T k + 1 ∧ k1 = 3 ∧ d = true ∧ k3 = k) := by
                    rcases HO.out with ⟨e1, e2, e3⟩ | ⟨c, l, c3, e1, e2, e3, e4, e5⟩
                    · left
                      rw [e1, e2]
                      exact ⟨rfl, fun h => e3 ⟨h.1, h.2.1⟩⟩
                    · by_cases e : k = c
                      · right
                        subst e
                        rw [e4, up_at]
                        exact ⟨rfl, e1, e2, e3⟩
                      · left
                        rw [e4, e5, up_ne e, up_ne e]
                        exact ⟨rfl, fun h => e (by have := h.2.2; omega)⟩
                  obtain ⟨ct0, ct1⟩ := HT9.out.core.inv.T0 k k3'
                  obtain ⟨ch0, ch1⟩ := HT9.out.core.inv.top k3'
                  obtain ⟨v, hv⟩ : ∃ v, T k * 65536 + hd (L k) = v := ⟨_, rfl⟩
                  obtain ⟨v2, hv2⟩ : ∃ v2, T' k * 65536 + hd (L' k) = v2 := ⟨_, rfl⟩
                  have vb0 : 0 ≤ v := by omega
                  have vb1 : v ≤ 18446744073709551615 := by omega
                  have vc0 : 0 ≤ v2 := by omega
                  have vc1 : v2 ≤ 18446744073709551615 := by omega
                  have hvd : (v = v2 ∧ ¬ (k1 = 3 ∧ d = true ∧ k3 = k)) ∨ ((v2 / 65536 = v / 65536 + 1 ∧ v ≠ v2 ∧ v / 65536 ≤ 1000000) ∧ k1 = 3 ∧ d = true ∧ k3 = k) := by
                    rcases hcase with ⟨e1, e2⟩ | ⟨e1, e2⟩
                    · exact .inl ⟨by omega, e2⟩
                    · exact .inr ⟨by omega, e2⟩
                  rw [hv] at y4
                  rw [hv2] at y5
                  clear hcase hv hv2 bt0 bt1 bh0 bh1 ct0 ct1 ch0 ch1
                  rcases hvd with ⟨rfl, e2⟩ | ⟨⟨e5, e6, e7⟩, rfl, rfl, rfl⟩
                  · by_cases q1 : k1 = 3
                    · subst q1
                      cases d
                      · clear e2
                        go_upto_region 25 with (fail)
                        go_quiet (fail)
                        go_upto_region 26 with (fail)
                        go_quiet (fail)
                        go_wp2_with fail
                        go_roundw
                        case rel =>
                          obtain ⟨nd, rfl⟩ := HW.out
                          exact ⟨k + 1, by omega, by go_num, by simp only [World.drewN_drewN]; exact ⟨_, rfl⟩⟩
                        case measure => simp [intOf]; omega
                      · have q3 : ¬ k3 = (k : Int) := fun h => e2 ⟨rfl, rfl, h⟩
                        have q6 : (k3 == (k : Int)) = false := by simpa using q3
                        clear e2
                        go_upto_region 25 with (fail)
                        go_quiet (fail)
                        go_upto_region 26 with (fail)
                        go_quiet (fail)
                        go_wp2_with fail
                        go_roundw
                        case rel =>
                          obtain ⟨nd, rfl⟩ := HW.out
                          exact ⟨k + 1, by omega, by go_num, by simp only [World.drewN_drewN]; exact ⟨_, rfl⟩⟩
                        case measure => simp [intOf]; omega
                    · have q6 : (k1 == 3) = false := by simpa using q1
                      clear e2
                      go_upto_region 25 with (fail)
                      go_quiet (fail)
                      go_upto_region 26 with (fail)
                      go_quiet (fail)
                      go_wp2_with fail
                      go_roundw
                      case rel =>
                        obtain ⟨nd, rfl⟩ := HW.out
                        exact ⟨k + 1, by omega, by go_num, by simp only [World.drewN_drewN]; exact ⟨_, rfl⟩⟩
                      case measure => simp [intOf]; omega
                  · have hw1 : IntKind.i64.wrap (v / 65536 + 1) = v / 65536 + 1 := IntWalk.i64_in _ (by omega)
                    have q6 : (v == v2) = false := by simpa using e6
                    have q7 : ((k : Int) == k) = true := by simp
                    have q9 : (v != v2) = true := by simpa using e6
                    have ht1 : ∀ W, Calls Try.prog 35 #[.int .u64 v] W fun e w' => e = .returned (.int .i64 (v / 65536)) ∧ w' = W := fun W => (r_tag v vb0 vb1 W).mono fun _ _ h => ⟨h.1, h.2.symm⟩
                    have ht2 : ∀ W, Calls Try.prog 35 #[.int .u64 v2] W fun e w' => e = .returned (.int .i64 (v / 65536 + 1)) ∧ w' = W := fun W => (r_tag v2 vc0 vc1 W).mono fun _ _ h => ⟨by rw [h.1, e5], h.2.symm⟩
                    clear e5 e6 e7
                    have HT1 := Lib.hid ht1
                    have HT2 := Lib.hid ht2
                    clear ht1 ht2
                    go_upto_region 25 with (fail)
                    go_quiet (fail)
                    have HW2 := Lib.hid (show ∃ nd, wr.drewN nq = w9.drewN nd by obtain ⟨nd, e⟩ := HW.out; exact ⟨nd + nq, by rw [e, World.drewN_drewN]⟩)
                    have z0 : (wr.drewN nq).cell? ⟨gx, 0, none⟩ = some (.int .i64 3) := x0
                    have z2 : (wr.drewN nq).cell? ⟨gx, 2, none⟩ = some (.int .i64 k) := x2
                    have z5 : (wr.drewN nq).cell? ⟨gx, 5, none⟩ = some (.bool true) := x5
                    have u4 : (wr.drewN nq).cell? ⟨g4, k, none⟩ = some (.int .u64 v) := y4
                    have u5 : (wr.drewN nq).cell? ⟨g5, k, none⟩ = some (.int .u64 v2) := y5
                    clear x0 x2 x5 y4 y5
                    obtain ⟨wz, hwz⟩ : ∃ wz, wr.drewN nq = wz := ⟨_, rfl⟩
                    rw [hwz] at HW2 z0 z2 z5 u4 u5 ⊢
                    clear hwz HW
                    go_upto_region 26 with (fail)
                    go_quiet (first | (go_at_call 35; exact Calls.quiet_of_same (HT2.out _)) | (go_at_call 35; exact Calls.quiet_of_same (HT1.out _)))
                    go_wp2_with fail
                    go_roundw
                    case rel =>
                      obtain ⟨nd, rfl⟩ := HW2.out
                      exact ⟨k + 1, by omega, by go_num, by simp only [World.drewN_drewN]; exact ⟨_, rfl⟩⟩
                    case measure => simp [intOf]; omega
                · obtain rfl : k = 4 := by omega
                  go_wp2_with fail
                  go_roundw
                  case rel =>
                    obtain ⟨nd, rfl⟩ := HW.out
                    exact ⟨i + 1, (nn + 1), T', L', N, held', p', by go_num, by first | rfl | (congr 1; omega), by omega, by omega, HT9.out.below (below_drewN (Below.refl _ w9) nd)⟩
                  case measure => simp [intOf]; omega
          · have hst : st ≤ 2 := by omega
            have hdv : ((st : Int) == 3) = false := by simp; omega
            rw [hdv] at hdn
            go_upto_region 17 with (go_at_call 24; (with_reducible refine hdn.mono ?_); rintro e w9 ⟨rfl, rfl⟩)
            have HT := HG
            clear HG hdn hM hap2
            have hpm := HT.out.pm.cell 0
            simp at hpm
            have hgb := HT.out.core.gb t g t3 (by rw [ho]; rfl)
            have hgl := mbox_lt (HT.out.core.en t t3) (by rw [ho]; rfl)
            have hIm := f_heads HT.out.core.fl
            have hf6 := img6
            go_upto_region 18 with (go_at_call 30; (with_reducible refine hIm.mono ?_); rintro e w7 ⟨i1, i2, i3, i5, m1, m2, m3, m5, q1, q2, q3, q4, q5, c', tt, s, g4, rfl, hB4, hl4, hc4, hfl, hS⟩)
            have HT7 := Lib.hid (HT.out.stay hS hfl)
            have HC4 := Lib.hid hc4
            have hW7 : wr.heap.size ≤ w7.heap.size := hS.size
            clear HT hIm hpm hc4 hfl hS
            have hap7 : w7.cell? ⟨ga, t, none⟩ = some (.pointer (some ⟨g, 0, none⟩)) := (arr_at (f := fun u => ppv (p u)) HT7.out.ap t3).trans (by rw [ho]; rfl)
            have hpm7 : w7.cell? ⟨gp, 0, none⟩ = some (.pointer (some ⟨b, 0, none⟩)) := HT7.out.pm.cell 0
            have HBT := Lib.hid (show ∀ k, k ≤ 3 → (0 ≤ T k ∧ T k ≤ i) ∧ (0 ≤ hd (L k) ∧ hd (L k) ≤ 6) from fun k hk => ⟨HT7.out.core.inv.T0 k hk, HT7.out.core.inv.top hk⟩)
            go_cut [12] (fun pv wc => CutA w0 lo hi b rb gp ga (i + 1) T L N g4 pv wc)
            case first =>
              have hs0 : (fun W : World => W.cell? ⟨ga, t, none⟩ = some (.pointer (some ⟨g, 0, none⟩)) ∧ W.cell? ⟨gp, 0, none⟩ = some (.pointer (some ⟨b, 0, none⟩))) w7.drew := ⟨hap7, hpm7⟩
              have hs1 : (fun W : World => W.cell? ⟨ga, t, none⟩ = some (.pointer (some ⟨g, 0, none⟩)) ∧ W.cell? ⟨gp, 0, none⟩ = some (.pointer (some ⟨b, 0, none⟩))) (w7.alloc (.cells #[.int .i64 0, .int .i64 0, .int .i64 0, .int .u64 0, .int .u64 0, .bool false] 50)).drew := ⟨(World.cell?_of_block ((below_new w7 (.cells #[.int .i64 0, .int .i64 0, .int .i64 0, .int .u64 0, .int .u64 0, .bool false] 50)).block ga HT7.out.ap.lt)).trans hap7, (World.cell?_of_block ((below_new w7 (.cells #[.int .i64 0, .int .i64 0, .int .i64 0, .int .u64 0, .int .u64 0, .bool false] 50)).block gp HT7.out.pm.lt)).trans hpm7⟩
              have HD1 := Lib.hid (HT7.out.below (below_drewN (Below.refl _ w7) 1))
              rw [show w7.drewN 1 = w7.drew from rfl] at HD1
              have HD2 := Lib.hid ((HT7.out.below (below_new w7 (.cells #[.int .i64 0, .int .i64 0, .int .i64 0, .int .u64 0, .int .u64 0, .bool false] 50))).below (below_drewN (Below.refl _ (w7.alloc (.cells #[.int .i64 0, .int .i64 0, .int .i64 0, .int .u64 0, .int .u64 0, .bool false] 50))) 1))
              rw [show (w7.alloc (.cells #[.int .i64 0, .int .i64 0, .int .i64 0, .int .u64 0, .int .u64 0, .bool false] 50)).drewN 1 = (w7.alloc (.cells #[.int .i64 0, .int .i64 0, .int .i64 0, .int .u64 0, .int .u64 0, .bool false] 50)).drew from rfl] at HD2
              have hc := ts_step HD1.out (by omega) t3 ho hst
              have hc2 := ts_step HD2.out (by omega) t3 ho hst
              have hz7 : Mem (w7.alloc (.cells #[.int .i64 0, .int .i64 0, .int .i64 0, .int .u64 0, .int .u64 0, .bool false] 50)).drew w7.heap.size 50 #[.int .i64 0, .int .i64 0, .int .i64 0, .int .u64 0, .int .u64 0, .bool false] := (Mem.new w7 50 #[.int .i64 0, .int .i64 0, .int .i64 0, .int .u64 0, .int .u64 0, .bool false]).drewN 1
              have hsz7 : (w7.alloc (.cells #[.int .i64 0, .int .i64 0, .int .i64 0, .int .u64 0, .int .u64 0, .bool false] 50)).drew.heap.size = w7.heap.size + 1 := size_new _ _
              have hga7 := HT7.out.ap.lt
              have hgp7 := HT7.out.pm.lt
              have htop7 := HT7.out.core.fl.top
              have hgr7 := Lib.hid hsz7
              have np1 : ¬ PG lo hi g ga := by unfold PG; omega
              have np2 : ¬ PG lo hi g gp := by unfold PG; omega
              have np3 : ¬ PG lo hi g w7.heap.size := by unfold PG; omega
              have la2 : ga < (w7.alloc (.cells #[.int .i64 0, .int .i64 0, .int .i64 0, .int .u64 0, .int .u64 0, .bool false] 50)).drew.heap.size := by rw [hsz7]; omega
              have lp2 : gp < (w7.alloc (.cells #[.int .i64 0, .int .i64 0, .int .i64 0, .int .u64 0, .int .u64 0, .bool false] 50)).drew.heap.size := by rw [hsz7]; omega
              have hka := fun W' (k1 k2 k3 k4 k5 : Int) (d : Bool) hF => ka_row (W' := W') hs0 hga7 hgp7 np1 np2 k1 k2 k3 k4 k5 d hF
              have hkb := fun W' (k1 k2 k3 k4 k5 : Int) (d : Bool) hF => kb_row (W' := W') hs1 la2 lp2 np1 np2 hz7 np3 (by omega) (by omega) k1 k2 k3 k4 k5 d hF
              have hn4 : ¬ PG lo hi g g4 := by unfold PG; omega
              have hi7 : hi ≤ w7.heap.size := htop7
              have HL4 := Lib.hid (show g4 < (w7.alloc (.cells #[.int .i64 0, .int .i64 0, .int .i64 0, .int .u64 0, .int .u64 0, .bool false] 50)).drew.heap.size by rw [hsz7]; omega)
              have HKA := Lib.hid hka
              have HKB := Lib.hid hkb
              have HZ7 := Lib.hid hz7
              have HSZ7 := Lib.hid hsz7
              have HC1 := Lib.hid hc
              have HC2 := Lib.hid hc2
              clear hap7 hpm7 hka hkb hz7 hsz7 hc hc2 hgr7 np1 np2 np3 la2 lp2
              go_region_held3 (fun W : World => W.cell? ⟨ga, t, none⟩ = some (.pointer (some ⟨g, 0, none⟩)) ∧ W.cell? ⟨gp, 0, none⟩ = some (.pointer (some ⟨b, 0, none⟩))) (first | (with_reducible exact hs0) | (with_reducible exact hs1) | (with_reducible assumption)) (first
                | (go_at_call 22; (with_reducible refine HC1.out.mono ?_); rintro e w5 ⟨k1, k2, k3, k4, k5, d, T', L', held', p', rfl, hF, hTS, hO, hG⟩; obtain ⟨e1, e2, e3⟩ := HKA.out _ k1 k2 k3 k4 k5 d hF; have HF := Lib.hid hF; have HTS := Lib.hid hTS; have HO := Lib.hid hO; have HGG := Lib.hid hG; clear hF hTS hO hG)
                | (go_at_call 22; (with_reducible refine HC2.out.mono ?_); rintro e w5 ⟨k1, k2, k3, k4, k5, d, T', L', held', p', rfl, hF, hTS, hO, hG⟩; obtain ⟨e1, e2, hz5⟩ := HKB.out _ k1 k2 k3 k4 k5 d hF; have d0 := hz5.cell 0; have d1 := hz5.cell 1; have d2 := hz5.cell 2; have d3 := hz5.cell 3; have d4 := hz5.cell 4; have d5 := hz5.cell 5; have df := hz5.frozen; have HZ5 := Lib.hid hz5; have HF := Lib.hid hF; have HTS := Lib.hid hTS; have HO := Lib.hid hO; have HGG := Lib.hid hG; clear hF hTS hO hG hz5))
              all_goals go_wp2_with fail
              all_goals go_meet
              · exact cutA_new HTS.out HO.out (fun k hk => fr_cell HF.out (drew_cell (HC4.out k hk)) hl4 hn4) (Nat.lt_of_lt_of_le hl4 HF.out.size)
              · exact cutA_set HTS.out HO.out (fun k hk => fr_cell HF.out (drew_cell (alloc_cell _ (HC4.out k hk) hl4)) HL4.out hn4) (Nat.lt_of_lt_of_le HL4.out HF.out.size) HZ5.out hi7 hga7 (Nat.ne_of_lt hl4) (fun u hu hq => absurd (mbox_lt (HT7.out.core.en u hu) ((HGG.out u hu).symm.trans hq)) (Nat.lt_irrefl _))
            case rest =>
              obtain ⟨gx, k1, k2, k3, k4, k5, d, T', L', held', p', rfl, hX8, hT8, hO8, hC8, hxh, hxa⟩ := hcut
              have HX := Lib.hid hX8
              have HT8 := Lib.hid hT8
              have HO := Lib.hid hO8
              have HC8 := Lib.hid hC8
              clear hX8 hT8 hO8 hC8
              clear HT7 HC4 hap7 hpm7
              have hpm := HT8.out.pm.cell 0
              simp at hpm
              have hIm := f_heads HT8.out.core.fl
              go_upto_region 20 with (go_at_call 30; (with_reducible refine hIm.mono ?_); rintro e w9 ⟨j1, j2, j3, j5, o1, o2, o3, o5, r1, r2, r3, r4, r5, c'', t'', s'', g5, rfl, hB5, hl5, hc5, hfl, hS⟩)
              have HT9 := Lib.hid (HT8.out.stay hS hfl)
              have HX9 := Lib.hid (Mem.of_eq HX.out (hS.block gx HX.out.lt (.inr hxh)))
              have HC9 : Hid (∀ k, k ≤ 3 → w9.cell? ⟨g4, k, none⟩ = some (.int .u64 (T k * 65536 + hd (L k)))) := Lib.hid fun k hk => (World.cell?_of_block (hS.block g4 (World.block_lt_of_cell? _ _ (HC8.out 0 (by omega))) (.inr (by have := hod; omega)))).trans (HC8.out k hk)
              have HD9 := Lib.hid hc5
              clear HT8 HX HC8 hIm hpm hfl hS hc5
              go_wp2_with fail
              go_loopw [14] (fun kv wr => ∃ k : Nat, k ≤ 4 ∧ kv = .int .i64 k ∧ ∃ nd, wr = w9.drewN nd) (fun kv _ => 4 - (intOf kv).toNat)
              case atStart => exact ⟨0, by omega, rfl, 0, rfl⟩
              case round =>
                obtain ⟨k, hk4, rfl, hwd⟩ := hrel
                have HW := Lib.hid hwd
                clear hwd
                by_cases hkl : k < 4
                · have hkI : (k : Int) < 4 := by omega
                  have k3' : k ≤ 3 := by omega
                  have x0 : wr.cell? ⟨gx, 0, none⟩ = some (.int .i64 k1) := by obtain ⟨nd, e⟩ := HW.out; rw [e]; exact HX9.out.cell 0
                  have x2 : wr.cell? ⟨gx, 2, none⟩ = some (.int .i64 k3) := by obtain ⟨nd, e⟩ := HW.out; rw [e]; exact HX9.out.cell 2
                  have x5 : wr.cell? ⟨gx, 5, none⟩ = some (.bool d) := by obtain ⟨nd, e⟩ := HW.out; rw [e]; exact HX9.out.cell 5
                  have y4 : wr.cell? ⟨g4, k, none⟩ = some (.int .u64 (T k * 65536 + hd (L k))) := by obtain ⟨nd, e⟩ := HW.out; rw [e]; exact HC9.out k k3'
                  have y5 : wr.cell? ⟨g5, k, none⟩ = some (.int .u64 (T' k * 65536 + hd (L' k))) := by obtain ⟨nd, e⟩ := HW.out; rw [e]; exact HD9.out k k3'
                  obtain ⟨⟨bt0, bt1⟩, bh0, bh1⟩ := HBT.out k k3'
                  have hcase : (T k * 65536 + hd (L k) = T' k * 65536 + hd (L' k) ∧ ¬ (k1 = 3 ∧ d = true ∧ k3 = k)) ∨ (T' k = T k + 1 ∧ k1 = 3 ∧ d = true ∧ k3 = k) := by
                    rcases HO.out with ⟨e1, e2, e3⟩ | ⟨c, l, c3, e1, e2, e3, e4, e5⟩
                    · left
                      rw [e1, e2]
                      exact ⟨rfl, fun h => e3 ⟨h.1, h.2.1⟩⟩
                    · by_cases e : k = c
                      · right
                        subst e
                        rw [e4, up_at]
                        exact ⟨rfl, e1, e2, e3⟩
                      · left
                        rw [e4, e5, up_ne e, up_ne e]
                        exact ⟨rfl, fun h => e (by have := h.2.2; omega)⟩
                  obtain ⟨ct0, ct1⟩ := HT9.out.core.inv.T0 k k3'
                  obtain ⟨ch0, ch1⟩ := HT9.out.core.inv.top k3'
                  obtain ⟨v, hv⟩ : ∃ v, T k * 65536 + hd (L k) = v := ⟨_, rfl⟩
                  obtain ⟨v2, hv2⟩ : ∃ v2, T' k * 65536 + hd (L' k) = v2 := ⟨_, rfl⟩
                  have vb0 : 0 ≤ v := by omega
                  have vb1 : v ≤ 18446744073709551615 := by omega
                  have vc0 : 0 ≤ v2 := by omega
                  have vc1 : v2 ≤ 18446744073709551615 := by omega
                  have hvd : (v = v2 ∧ ¬ (k1 = 3 ∧ d = true ∧ k3 = k)) ∨ ((v2 / 65536 = v / 65536 + 1 ∧ v ≠ v2 ∧ v / 65536 ≤ 1000000) ∧ k1 = 3 ∧ d = true ∧ k3 = k) := by
                    rcases hcase with ⟨e1, e2⟩ | ⟨e1, e2⟩
                    · exact .inl ⟨by omega, e2⟩
                    · exact .inr ⟨by omega, e2⟩
                  rw [hv] at y4
                  rw [hv2] at y5
                  clear hcase hv hv2 bt0 bt1 bh0 bh1 ct0 ct1 ch0 ch1
                  rcases hvd with ⟨rfl, e2⟩ | ⟨⟨e5, e6, e7⟩, rfl, rfl, rfl⟩
                  · by_cases q1 : k1 = 3
                    · subst q1
                      cases d
                      · clear e2
                        go_upto_region 25 with (fail)
                        go_quiet (fail)
                        go_upto_region 26 with (fail)
                        go_quiet (fail)
                        go_wp2_with fail
                        go_roundw
                        case rel =>
                          obtain ⟨nd, rfl⟩ := HW.out
                          exact ⟨k + 1, by omega, by go_num, by simp only [World.drewN_drewN]; exact ⟨_, rfl⟩⟩
                        case measure => simp [intOf]; omega
                      · have q3 : ¬ k3 = (k : Int) := fun h => e2 ⟨rfl, rfl, h⟩
                        have q6 : (k3 == (k : Int)) = false := by simpa using q3
                        clear e2
                        go_upto_region 25 with (fail)
                        go_quiet (fail)
                        go_upto_region 26 with (fail)
                        go_quiet (fail)
                        go_wp2_with fail
                        go_roundw
                        case rel =>
                          obtain ⟨nd, rfl⟩ := HW.out
                          exact ⟨k + 1, by omega, by go_num, by simp only [World.drewN_drewN]; exact ⟨_, rfl⟩⟩
                        case measure => simp [intOf]; omega
                    · have q6 : (k1 == 3) = false := by simpa using q1
                      clear e2
                      go_upto_region 25 with (fail)
                      go_quiet (fail)
                      go_upto_region 26 with (fail)
                      go_quiet (fail)
                      go_wp2_with fail
                      go_roundw
                      case rel =>
                        obtain ⟨nd, rfl⟩ := HW.out
                        exact ⟨k + 1, by omega, by go_num, by simp only [World.drewN_drewN]; exact ⟨_, rfl⟩⟩
                      case measure => simp [intOf]; omega
                  · have hw1 : IntKind.i64.wrap (v / 65536 + 1) = v / 65536 + 1 := IntWalk.i64_in _ (by omega)
                    have q6 : (v == v2) = false := by simpa using e6
                    have q7 : ((k : Int) == k) = true := by simp
                    have q9 : (v != v2) = true := by simpa using e6
                    have ht1 : ∀ W, Calls Try.prog 35 #[.int .u64 v] W fun e w' => e = .returned (.int .i64 (v / 65536)) ∧ w' = W := fun W => (r_tag v vb0 vb1 W).mono fun _ _ h => ⟨h.1, h.2.symm⟩
                    have ht2 : ∀ W, Calls Try.prog 35 #[.int .u64 v2] W fun e w' => e = .returned (.int .i64 (v / 65536 + 1)) ∧ w' = W := fun W => (r_tag v2 vc0 vc1 W).mono fun _ _ h => ⟨by rw [h.1, e5], h.2.symm⟩
                    clear e5 e6 e7
                    have HT1 := Lib.hid ht1
                    have HT2 := Lib.hid ht2
                    clear ht1 ht2
                    go_upto_region 25 with (fail)
                    go_quiet (fail)
                    have HW2 := Lib.hid (show ∃ nd, wr.drewN nq = w9.drewN nd by obtain ⟨nd, e⟩ := HW.out; exact ⟨nd + nq, by rw [e, World.drewN_drewN]⟩)
                    have z0 : (wr.drewN nq).cell? ⟨gx, 0, none⟩ = some (.int .i64 3) := x0
                    have z2 : (wr.drewN nq).cell? ⟨gx, 2, none⟩ = some (.int .i64 k) := x2
                    have z5 : (wr.drewN nq).cell? ⟨gx, 5, none⟩ = some (.bool true) := x5
                    have u4 : (wr.drewN nq).cell? ⟨g4, k, none⟩ = some (.int .u64 v) := y4
                    have u5 : (wr.drewN nq).cell? ⟨g5, k, none⟩ = some (.int .u64 v2) := y5
                    clear x0 x2 x5 y4 y5
                    obtain ⟨wz, hwz⟩ : ∃ wz, wr.drewN nq = wz := ⟨_, rfl⟩
                    rw [hwz] at HW2 z0 z2 z5 u4 u5 ⊢
                    clear hwz HW
                    go_upto_region 26 with (fail)
                    go_quiet (first | (go_at_call 35; exact Calls.quiet_of_same (HT2.out _)) | (go_at_call 35; exact Calls.quiet_of_same (HT1.out _)))
                    go_wp2_with fail
                    go_roundw
                    case rel =>
                      obtain ⟨nd, rfl⟩ := HW2.out
                      exact ⟨k + 1, by omega, by go_num, by simp only [World.drewN_drewN]; exact ⟨_, rfl⟩⟩
                    case measure => simp [intOf]; omega
                · obtain rfl : k = 4 := by omega
                  go_wp2_with fail
                  go_roundw
                  case rel =>
                    obtain ⟨nd, rfl⟩ := HW.out
                    exact ⟨i + 1, nn, T', L', N, held', p', by go_num, by first | rfl | (congr 1; omega), by omega, by omega, HT9.out.below (below_drewN (Below.refl _ w9) nd)⟩
                  case measure => simp [intOf]; omega
        · rw [ho] at hnp
          cases hnp
      · obtain rfl : i = n1 := by omega
        go_wp2_with fail
        refine (FreL.l_awake _).mono ?_
        rintro e w6 ⟨rfl, hb6⟩
        have HB6 := Lib.hid (below_trans2 HB0.out (below_trans2 HG.out.core.fl.old hb6))
        clear hb6
        go_wp2
        go_ret
        exact ⟨rfl, .of_below HB6.out⟩

/-! The row's step. -/
set_option maxRecDepth 100000 in
theorem lifted (os : Os) (started : os.Started) (H : Type) (enc : TypeId × Value → H) :
    ReturnsInHanded {} Try.checked os 7 .any (Rows.freelistTagsSpec.pre6 enc Try.prog Try.f7 Rows.freelistTagsRow.domain false) (Rows.freelistTagsSpec.post enc Try.prog Try.f7 false true false false) := by
  refine returnsInHanded_of_change (C := Try.checked) own started (by kernel_rfl) Try.func7
    (ChangeSpec.witness6 (enc := enc) (C := Try.checked) false ⟨#[], #[.slice none 0 0, .slice none 0 0], []⟩ 8 (by kernel_rfl) (by kernel_rfl) (by kernel_rfl) (by kernel_rfl)) ?_
  intro W base args ds gs before hval0 hW hcnd _
  have hval : ∀ (j : Nat) t v, Try.f7.params[j]? = some t → args[j]? = some v → Value.okWide Try.prog W .any base t v := hval0
  have hW' := hW
  obtain ⟨p, q, hA0, hV, rfl, hfz, hnd⟩ := hW
  have hA : DataW.TrodAll enc Try.prog W 0 (fun _ => true) true Try.f7.params.toList args.toList ds p := hA0
  rw [Try.params7] at hA hval
  obtain ⟨v0, vs0, d0, ds0, p0, q0, hargs, rfl, rfl, h0, r0⟩ := trodAll_cons hA
  obtain ⟨v1, vs1, d1, ds1, p1, q1, rfl, rfl, rfl, h1, r1⟩ := trodAll_cons r0
  obtain ⟨rfl, rfl, rfl⟩ := trodAll_nil r1
  obtain rfl : args = #[v0, v1] := by cases args; simp_all
  obtain ⟨rfl, rfl⟩ := trodVars_none hV
  have hk : ∀ W', Kept W W' → Rows.freelistTagsSpec.post enc Try.prog Try.f7 false true false false W #[v0, v1] (.bool true) W' := fun W' hb =>
    post_law laidOut readable rfl Try.underlying4 rfl hW' rfl hb
  clear hA0 hval0 hA hW'
  obtain ⟨A0, n0, c0, z0, rfl, l0, m0, s0⟩ := open_slice Try.underlying22 Try.underlying3 cells3 (hval 0 22 v0 rfl rfl) h0
  obtain ⟨A1, n1, c1, z1, rfl, l1, m1, s1⟩ := open_slice Try.underlying22 Try.underlying3 cells3 (hval 1 22 v1 rfl rfl) h1
  refine (walk W A0 n0 c0 z0 l0 m0 s0 A1 n1 c1 z1 l1 m1 s1).mono fun e W' ⟨he, hg⟩ => ?_
  subst he
  exact ⟨_, rfl, hk W' hg⟩

theorem over : Rows.freelistTagsRow.holds Try.pinned (OpenSpec.ofChange Rows.freelistTagsSpec) :=
  OpenClaim.holds_of_wide 7 Try.f7 rfl rfl rfl rfl rfl rfl rfl ⟨rfl, rfl, rfl, rfl, rfl⟩ rfl rfl rfl rfl rfl (by kernel_rfl) Try.func7 (by kernel_rfl)
    (of_decide_eq_true (by kernel_rfl)) (by unfold Func.isWrapper; first | (rw [if_pos (by decide +kernel)]; kernel_rfl) | (rw [if_neg (by decide +kernel)]; exact ⟨rfl, rfl⟩))
    (fun os started H enc _ => lifted os started H enc)

/-- The statement. -/
theorem proved : Rows.FreelistTagsSaid :=
  over
#print axioms proved
end Go.Proofs.Ytpnkjdamgkaonaa.freelistTags
