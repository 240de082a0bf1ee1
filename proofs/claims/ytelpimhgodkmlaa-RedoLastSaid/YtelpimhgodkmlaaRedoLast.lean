/-
  Proved: a log returns the value that was written last to each of its addresses, and nothing for others, whatever is written. No condition.
-/
import Derived.Test.YtelpimhgodkmlaaRows
import Derived.WalkKit
import Derived.ProofKit
import Derived.OpenShut
import Derived.Test.YtelpimhgodkmlaaFrame
import Derived.Test.YtelpimhgodkmlaaRlF
import Derived.Deep.RegionHeld3
import Derived.Deep.RegionLaw
namespace Go.Proofs.Ytelpimhgodkmlaa.redoLast
open Go.ChangeShapes Go.WideShapes Go.ChangeAt Go.RowKit
open LawFrame
open Go.ChangeMaps (open_string)
set_option linter.unusedVariables false

theorem own : ownKnob Try.prog.godebug = none := by kernel_rfl
theorem laidOut : laidOutB Try.prog = true := by kernel_rfl

open PlainT BlkW CelS CelM CelV CelN LabD FreV FreI RsA RlU RlP RlA RlB RlC RlD RlE RlF
set_option maxHeartbeats 2000000
set_option maxRecDepth 100000
theorem few_of {m : Nat} : ∀ {l : List Int}, l.Nodup → (∀ x ∈ l, 0 ≤ x ∧ x < m) → l.length ≤ m := by
  induction m with
  | zero =>
    intro l _ h
    cases l with
    | nil => exact Nat.le_refl _
    | cons a l =>
      have := h a (List.mem_cons_self ..)
      omega
  | succ m ih =>
    intro l hn h
    by_cases hm : (m : Int) ∈ l
    · have h1 := ih (hn.erase (m : Int)) (fun x hx => by
        have h2 := (List.Nodup.mem_erase_iff hn).1 hx
        have h3 := h x h2.2
        have := h2.1
        omega)
      rw [List.length_erase_of_mem hm] at h1
      omega
    · have h1 := ih hn (fun x hx => by
        have h3 := h x hx
        have : x ≠ m := fun e => hm (e ▸ hx)
        omega)
      omega
theorem put_getB {cap : Nat} {ad : List Int} {x y : Int} (h0 : 0 ≤ x) (ha : x ∈ ad ∨ ad.length < cap) : getB (putA cap ad x) y = (decide (y = x) || getB ad y) := by
  unfold getB putA
  by_cases hin : x ∈ ad
  · rw [if_neg fun c => c.2.1 hin]
    by_cases e : y = x
    · simp [e, hin]
    · simp [e]
  · have hl := ha.resolve_left hin
    rw [if_pos ⟨h0, hin, hl⟩]
    by_cases e : y = x
    · simp [e]
    · simp [e]
theorem put_getV {cap : Nat} {ad vs ix : List Int} {x v y : Int} (hlv : vs.length = ad.length) (h0 : 0 ≤ x) (ha : x ∈ ad ∨ ad.length < cap) : getV (putA cap ad x) (putV cap ad vs x v) y = if y = x then v else getV ad vs y := by
  by_cases hin : x ∈ ad
  · have hp := put_has (cap := cap) (ad := ad) (vs := vs) (ix := ix) (v := v) h0 hin
    rw [hp.2.1, hp.2.2.1]
    unfold getV
    have hi := List.idxOf_lt_length_of_mem hin
    by_cases e : y = x
    · subst e
      rw [if_pos hin, if_pos rfl, List.getElem?_set_self (by omega)]
      rfl
    · rw [if_neg e]
      by_cases hy : y ∈ ad
      · rw [if_pos hy, if_pos hy, List.getElem?_set_ne]
        intro c
        have h1 := List.getElem_idxOf (List.idxOf_lt_length_of_mem hin)
        have h2 := List.getElem_idxOf (List.idxOf_lt_length_of_mem hy)
        exact e (h2.symm.trans (by simp only [← c, h1]))
      · rw [if_neg hy, if_neg hy]
  · have hl := ha.resolve_left hin
    have hp := put_new (cap := cap) (ad := ad) (vs := vs) (ix := ix) (v := v) h0 hin hl
    rw [hp.2.1, hp.2.2.1]
    unfold getV
    by_cases e : y = x
    · subst e
      rw [if_pos (by simp), if_pos rfl, List.idxOf_append, if_neg hin]
      simp [hlv]
    · rw [if_neg e]
      by_cases hy : y ∈ ad
      · rw [if_pos (by simp [hy]), if_pos hy, List.idxOf_append, if_pos hy, List.getElem?_append_left (by have := List.idxOf_lt_length_of_mem hy; omega)]
      · rw [if_neg (by simp [hy, e]), if_neg hy]
/-- What the two arrays hold. -/
def arrB (ad : List Int) : Array Value := ((List.range 24).map fun x : Nat => Value.bool (getB ad x)).toArray
def arrV (ad vs : List Int) : Array Value := ((List.range 24).map fun x : Nat => Value.int .u64 (getV ad vs x)).toArray
theorem arrB_get {ad : List Int} {x : Nat} (h : x < 24) : (arrB ad)[x]? = some (.bool (getB ad x)) := by
  unfold arrB
  rw [List.getElem?_toArray, List.getElem?_map, List.getElem?_range h]
  rfl
theorem arrV_get {ad vs : List Int} {x : Nat} (h : x < 24) : (arrV ad vs)[x]? = some (.int .u64 (getV ad vs x)) := by
  unfold arrV
  rw [List.getElem?_toArray, List.getElem?_map, List.getElem?_range h]
  rfl
theorem arrB_none {ad : List Int} {x : Nat} (h : ¬ x < 24) : (arrB ad)[x]? = none := by
  unfold arrB
  rw [List.getElem?_toArray, List.getElem?_eq_none (by simp; omega)]
theorem arrV_none {ad vs : List Int} {x : Nat} (h : ¬ x < 24) : (arrV ad vs)[x]? = none := by
  unfold arrV
  rw [List.getElem?_toArray, List.getElem?_eq_none (by simp; omega)]
theorem arrB_put {cap : Nat} {ad : List Int} {x : Nat} (hx : x < 24) (ha : (x : Int) ∈ ad ∨ ad.length < cap) : (arrB ad).setIfInBounds x (.bool true) = arrB (putA cap ad x) := by
  apply Array.ext_getElem?
  intro i
  by_cases hi : i < 24
  · rw [arrB_get hi, put_getB (by omega) ha]
    by_cases e : x = i
    · subst e
      rw [Array.getElem?_setIfInBounds_self_of_lt (by simp [arrB]; exact hx)]
      simp
    · rw [Array.getElem?_setIfInBounds_ne e, arrB_get hi, decide_eq_false (by omega), Bool.false_or]
  · rw [arrB_none hi, Array.getElem?_setIfInBounds_ne (by omega), arrB_none hi]
theorem arrV_put {cap : Nat} {ad vs : List Int} {x : Nat} {v : Int} (hlv : vs.length = ad.length) (hx : x < 24) (ha : (x : Int) ∈ ad ∨ ad.length < cap) : (arrV ad vs).setIfInBounds x (.int .u64 v) = arrV (putA cap ad x) (putV cap ad vs x v) := by
  apply Array.ext_getElem?
  intro i
  by_cases hi : i < 24
  · rw [arrV_get hi, put_getV (ix := []) hlv (by omega) ha]
    by_cases e : x = i
    · subst e
      rw [Array.getElem?_setIfInBounds_self_of_lt (by simp [arrV]; exact hx), if_pos rfl]
    · rw [Array.getElem?_setIfInBounds_ne e, arrV_get hi, if_neg (by omega)]
  · rw [arrV_none hi, Array.getElem?_setIfInBounds_ne (by omega), arrV_none hi]
abbrev TA : TypeId := 45
abbrev TB : TypeId := 46
theorem arrB_nil : (#[.bool false, .bool false, .bool false, .bool false, .bool false, .bool false, .bool false, .bool false, .bool false, .bool false, .bool false, .bool false, .bool false, .bool false, .bool false, .bool false, .bool false, .bool false, .bool false, .bool false, .bool false, .bool false, .bool false, .bool false] : Array Value) = arrB [] := rfl
theorem arrV_nil : (#[.int .u64 0, .int .u64 0, .int .u64 0, .int .u64 0, .int .u64 0, .int .u64 0, .int .u64 0, .int .u64 0, .int .u64 0, .int .u64 0, .int .u64 0, .int .u64 0, .int .u64 0, .int .u64 0, .int .u64 0, .int .u64 0, .int .u64 0, .int .u64 0, .int .u64 0, .int .u64 0, .int .u64 0, .int .u64 0, .int .u64 0, .int .u64 0] : Array Value) = arrV [] [] := rfl
/-- What the rounds keep. -/
structure In (w0 : World) (g hb lb : Nat) (L : LV) (ad vs ix : List Int) (w : World) : Prop where
  log : LogIs w w0.heap.size TL 32 L ad vs ix
  gg : L.g = g
  lt : ∀ x ∈ ad, x < 24
  mb : Mem w hb TA (arrB ad)
  mv : Mem w lb TB (arrV ad vs)
  nb : ¬ Blks L hb
  nv : ¬ Blks L lb
  be : Below w0.heap.size w0 w
  ne : hb ≠ lb
  h1 : w0.heap.size ≤ hb
  h2 : w0.heap.size ≤ lb
theorem In.few {w0 : World} {g hb lb : Nat} {L : LV} {ad vs ix : List Int} {w : World} (h : In w0 g hb lb L ad vs ix w) : ad.length ≤ 24 := few_of h.log.ok.nd fun x hx => ⟨h.log.ok.nn x hx, h.lt x hx⟩
theorem In.put {w0 : World} {g hb lb : Nat} {L L' : LV} {ad vs ix : List Int} {w w3 : World} (h : In w0 g hb lb L ad vs ix w) {x : Nat} {v : Int} (hx : x < 24) (hl : LogIs w3 w0.heap.size TL 32 L' (putA 32 ad x) (putV 32 ad vs x v) (putX 32 ad ix x)) (hg : L'.g = L.g) (hF : Fr (Blks L) w w3) (hb' : ∀ y, Blks L' y → Blks L y ∨ w.heap.size ≤ y) :
    In w0 g hb lb L' (putA 32 ad x) (putV 32 ad vs x v) (putX 32 ad ix x) (((w3.drewN 1).setCell ⟨hb, x, none⟩ (.bool true)).setCell ⟨lb, x, none⟩ (.int .u64 v)) := by
  have s1 := put_side hF hb' h.nb h.mb.lt
  have s2 := put_side hF hb' h.nv h.mv.lt
  have hm1 := Mem.of_eq h.mb s1.1
  have hm2 := Mem.of_eq h.mv s2.1
  have ha : (x : Int) ∈ ad ∨ ad.length < 32 := .inr (by have := h.few; omega)
  have hbe := h.be.trans (h.log.step h.be.size hF)
  have f2 : Fr (fun y => y = hb ∨ y = lb) w3 (((w3.drewN 1).setCell ⟨hb, x, none⟩ (.bool true)).setCell ⟨lb, x, none⟩ (.int .u64 v)) :=
    (((Fr.refl _ w3).drewN 1).set_ ⟨hb, x, none⟩ (.inl (.inl rfl)) _).set_ ⟨lb, x, none⟩ (.inl (.inr rfl)) _
  refine ⟨hl.fr f2 ?_, hg.trans h.gg, ?_, ?_, ?_, s1.2, s2.2, f2.after hbe (fun y hy => ?_) (Nat.le_refl _), h.ne, h.h1, h.h2⟩
  · rintro y hy (rfl | rfl)
    · exact s1.2 hy
    · exact s2.2 hy
  · intro y hy
    by_cases hin : (x : Int) ∈ ad
    · rw [(put_has (cap := 32) (vs := vs) (ix := ix) (v := v) (by omega) hin).2.1] at hy
      exact h.lt y hy
    · rw [(put_new (cap := 32) (vs := vs) (ix := ix) (v := v) (by omega) hin (ha.resolve_left hin)).2.1] at hy
      rcases List.mem_append.1 hy with hy | hy
      · exact h.lt y hy
      · rw [List.mem_singleton] at hy
        omega
  · rw [← arrB_put hx ha]
    exact ((hm1.drewN 1).set_ x (.bool true)).far h.ne _
  · rw [← arrV_put h.log.ok.lv hx ha]
    exact ((hm2.drewN 1).far (a := ⟨hb, x, none⟩) (fun e => h.ne e.symm) _).set_ x (.int .u64 v)
  · rcases hy with rfl | rfl
    · exact h.h1
    · exact h.h2

theorem readable : ∀ t ∈ Try.f4.params.toList, Try.prog.readableRec t = true ∧ t < Try.prog.types.size := by
  have h : (Try.f4.params.toList.all fun t => Try.prog.readableRec t && decide (t < Try.prog.types.size)) = true := by kernel_rfl
  intro t ht
  have := List.all_eq_true.1 h t ht
  simpa using this

/-! The walk. -/
theorem walk (w : World) (A0 : Option Addr) (n0 c0 : Nat) (l0 : n0 ≤ c0) (m0 : c0 ≤ maxLen) (s0 : RlF.RowU w A0 n0) :
    Calls Try.prog 4 #[.slice A0 n0 c0] w fun e w' => e = .returned (.bool true) ∧ Kept w w' := by
  have HZ := Lib.hid s0
  clear s0
  go_enter Try.func4, Try.ntmps4
  by_cases hbig : (60 : Int) < n0
  · go_wp2_with fail
    refine (RlE.l_awake _).mono ?_
    rintro e w3 ⟨rfl, hb1⟩
    have HB1 := Lib.hid hb1
    clear hb1
    go_wp2
    go_ret
    exact ⟨rfl, .of_below HB1.out⟩
  · have hn : (n0 : Int) ≤ 60 := by omega
    clear hbig
    have hnw := a_new w 32 32 (by decide)
    go_upto_region 10 with (go_at_call 9; refine hnw.mono ?_; rintro e w2 ⟨⟨g, va, vv, vi⟩, rfl, hS0, hB0⟩)
    obtain ⟨hb, hhb⟩ : ∃ hb, w2.heap.size = hb := ⟨_, rfl⟩
    have hI : In w g hb (hb + 1) ⟨g, va, vv, vi⟩ [] [] (List.replicate (siz 32) (-1)) ((w2.alloc (.cells (arrB []) TA)).alloc (.cells (arrV [] []) TB)) := by
      have m1 := (Mem.new w2 TA (arrB [])).alloc (.cells (arrV [] []) TB)
      have m2 := Mem.new (w2.alloc (.cells (arrB []) TA)) TB (arrV [] [])
      rw [size_new, hhb] at m2
      rw [hhb] at m1
      exact ⟨(hS0.alloc _).alloc _, rfl, fun x hx => by simp at hx, m1, m2, fun c => by have := (hS0.lt c).2; omega, fun c => by have := (hS0.lt c).2; omega, hB0.trans ((below_new2 w2 _ _).mono hB0.size), by omega, by have := hB0.size; omega, by have := hB0.size; omega⟩
    rw [arrB_nil, arrV_nil, hhb]
    obtain ⟨W0, hW⟩ : ∃ W0, (w2.alloc (.cells (arrB []) TA)).alloc (.cells (arrV [] []) TB) = W0 := ⟨_, rfl⟩
    rw [hW] at hI
    rw [hW]
    have HI := Lib.hid hI
    clear hI hW hS0 hB0 hnw hhb
    go_loopw [6, 7] (fun nv kv wr => ∃ (k : Nat) (L : LV) (ad vs ix : List Int), k ≤ n0 ∧ kv = .int .i64 k ∧ nv = .int .i64 ad.length ∧ In w g hb (hb + 1) L ad vs ix wr) (fun _ kv _ => n0 - (intOf kv).toNat)
    case atStart => exact ⟨0, _, [], [], _, by omega, rfl, rfl, HI.out⟩
    case round =>
      clear HI
      obtain ⟨k, L, ad, vs, ix, hk, rfl, rfl, hi⟩ := hrel
      have HI := Lib.hid hi
      have hg := hi.gg
      have hz := hi.be.size
      have h24 := hi.few
      have HG := Lib.hid hg
      clear hi hg
      by_cases hlt : k < n0
      · have hltI : (k : Int) < n0 := by omega
        obtain ⟨b, off, rfl, hb0, hc⟩ := HZ.out (by omega)
        obtain ⟨x, v, e0, e1⟩ := hc k hlt
        have cx : wr.cell? ⟨b, off + k * 2, none⟩ = some (.int .i64 x) := (World.cell?_of_block (HI.out.be.block b hb0)).trans e0
        have cv : wr.cell? ⟨b, off + k * 2 + 1, none⟩ = some (.int .u64 v) := (World.cell?_of_block (HI.out.be.block b hb0)).trans e1
        have HE := Lib.hid e1
        obtain ⟨t, ht⟩ : ∃ t, pl x 24 = t := ⟨_, rfl⟩
        have hin := pl_in x 24 (by decide) (by decide)
        rw [ht] at hin
        have hpl := k_place x 24 t (by decide) (by decide) ht
        obtain ⟨y, rfl⟩ : ∃ y : Nat, t = y := ⟨t.toNat, by omega⟩
        have hy24 : y < 24 := by omega
        have hcp := a_put_to HI.out.log hz y v true _ _ _ (putR_yes (by omega) (.inr (by omega))) rfl rfl rfl
        rw [HG.out] at hcp
        clear ht hc e0 e1
        go_upto_region 15 with (first
          | (go_at_call 11; (with_reducible refine (hpl _).mono ?_); rintro e w4 ⟨rfl, rfl⟩)
          | (go_at_call 12; (with_reducible refine hcp.mono ?_); rintro e w3 ⟨rfl, L1, hS1, hg1, hF1, hb1⟩))
        have hP := HI.out.put hy24 hS1 hg1 hF1 hb1
        have m1 := Mem.of_eq HI.out.mb (put_side hF1 hb1 HI.out.nb HI.out.mb.lt).1
        have m2 := Mem.of_eq HI.out.mv (put_side hF1 hb1 HI.out.nv HI.out.mv.lt).1
        have q1 : w3.cell? ⟨hb, y, none⟩ = some (.bool (getB ad y)) := (m1.cell y).trans (arrB_get hy24)
        have q2 : w3.cell? ⟨hb + 1, y, none⟩ = some (.int .u64 (getV ad vs y)) := (m2.cell y).trans (arrV_get hy24)
        have f1 := m1.frozen y
        have f2 := m2.frozen y
        have q3 : w3.cell? ⟨b, off + k * 2 + 1, none⟩ = some (.int .u64 v) := (World.cell?_of_block ((HI.out.be.trans (HI.out.log.step hz hF1)).block b hb0)).trans HE.out
        have hne1 : b ≠ hb := by have := HI.out.h1; omega
        have hne2 : b ≠ hb + 1 := by have := HI.out.h1; omega
        have HP := Lib.hid hP
        have HI2 := HI
        obtain ⟨u, hu⟩ : ∃ u, getV ad vs y = u := ⟨_, rfl⟩
        rw [hu] at q2
        clear hP m1 m2 hS1 hF1 hb1 hg1 hcp hu
        by_cases hmem : (y : Int) ∈ ad
        · rw [show getB ad y = true from decide_eq_true hmem] at q1
          have hlen : Hid ((putA 32 ad y).length = ad.length) := Lib.hid (by rw [(put_has (cap := 32) (vs := vs) (ix := ix) (v := v) (by omega) hmem).2.1])
          clear hmem
          go_upto_region 17 with fail
          go_region
          all_goals
            go_wp2_with fail
            go_roundw
            case rel => exact ⟨k + 1, L1, _, _, _, by omega, by go_num, by rw [hlen.out], HP.out⟩
            case measure => simp [intOf]; omega
        · rw [show getB ad y = false from decide_eq_false hmem] at q1
          have hlen : Hid ((putA 32 ad y).length = ad.length + 1) := Lib.hid (by rw [(put_new (cap := 32) (vs := vs) (ix := ix) (v := v) (by omega) hmem (by omega)).2.1, List.length_append]; rfl)
          clear hmem
          go_upto_region 17 with fail
          go_region
          all_goals
            go_wp2_with fail
            go_roundw
            case rel => exact ⟨k + 1, L1, _, _, _, by omega, by go_num, by rw [hlen.out]; go_num, HP.out⟩
            case measure => simp [intOf]; omega
      · obtain rfl : k = n0 := by omega
        have hle := fun nd => a_len _ _ _ _ _ _ _ (HI.out.log.drewN nd).toLogR
        rw [HG.out] at hle
        clear hlt hk
        go_wp2_with fail
        go_loopw [9] (fun kv wq => ∃ j : Nat, j ≤ 24 ∧ kv = .int .i64 j ∧ ∃ nd, wq = wr.drewN nd) (fun kv _ => 24 - (intOf kv).toNat)
        case atStart => exact ⟨0, by omega, rfl, 0, rfl⟩
        case round =>
          rename World => wq
          obtain ⟨j, hj, rfl, hwq⟩ := hrel
          have HQ := Lib.hid hwq
          have hIq : In w g hb (hb + 1) L ad vs ix wq := by
            obtain ⟨nd, rfl⟩ := hwq
            exact ⟨HI.out.log.drewN nd, HI.out.gg, HI.out.lt, HI.out.mb, HI.out.mv, HI.out.nb, HI.out.nv, below_drewN HI.out.be nd, HI.out.ne, HI.out.h1, HI.out.h2⟩
          have HIq := Lib.hid hIq
          clear hwq hIq
          by_cases hlt : j < 24
          · have hltI : (j : Int) < 24 := by omega
            have hge := a_get _ _ _ _ _ _ _ j HIq.out.log
            rw [HG.out] at hge
            obtain ⟨bb, hbb⟩ : ∃ bb, getB ad j = bb := ⟨_, rfl⟩
            obtain ⟨u, hu⟩ : ∃ u, getV ad vs j = u := ⟨_, rfl⟩
            rw [hbb, hu] at hge
            have t1 : (bb != bb) = false := by simp
            have t2 : (u != u) = false := by simp
            have q1 := fun nd => (Mem.cell (HIq.out.mb.drewN nd) j).trans (arrB_get hlt)
            have q2 := fun nd => (Mem.cell (HIq.out.mv.drewN nd) j).trans (arrV_get hlt)
            rw [hbb] at q1
            rw [hu] at q2
            have Q1 := Lib.hid q1
            have Q2 := Lib.hid q2
            clear q1 q2 hbb hu
            go_upto_region 22 with (go_at_call 20; (with_reducible refine hge.mono ?_); rintro e x1 ⟨rfl, n1, rfl⟩; have q1 := Q1.out n1; have q2 := Q2.out n1)
            go_wp2_with fail
            go_roundw
            case rel => exact ⟨j + 1, by omega, by go_num, by obtain ⟨nd, rfl⟩ := HQ.out; exact ⟨nd + n1, by rw [World.drewN_drewN]⟩⟩
            case measure => simp [intOf]; omega
          · obtain rfl : j = 24 := by omega
            have hle2 := a_len _ _ _ _ _ _ _ HIq.out.log.toLogR
            rw [HG.out] at hle2
            go_wp2_with (first
              | (go_at_call 14; (with_reducible refine hle2.mono ?_); rintro e x1 ⟨rfl, rfl⟩)
              | (go_at_call 8; refine (RlE.l_awake _).mono ?_; rintro e x9 ⟨rfl, hb9⟩))
            go_ret
            exact ⟨rfl, .of_below (HIq.out.be.trans (hb9.mono HIq.out.be.size))⟩

/-! The row's step. -/
set_option maxRecDepth 100000 in
theorem lifted (os : Os) (started : os.Started) (H : Type) (enc : TypeId × Value → H) :
    ReturnsInHanded {} Try.checked os 4 .any (Rows.redoLastSpec.pre6 enc Try.prog Try.f4 Rows.redoLastRow.domain false) (Rows.redoLastSpec.post enc Try.prog Try.f4 false true false false) := by
  refine returnsInHanded_of_change (C := Try.checked) own started (by kernel_rfl) Try.func4
    (ChangeSpec.witness6 (enc := enc) (C := Try.checked) false ⟨#[], #[.slice none 0 0], []⟩ 8 (by kernel_rfl) (by kernel_rfl) (by kernel_rfl) (by kernel_rfl)) ?_
  intro W base args ds gs before hval0 hW hcnd _
  have hval : ∀ (j : Nat) t v, Try.f4.params[j]? = some t → args[j]? = some v → Value.okWide Try.prog W .any base t v := hval0
  have hW' := hW
  obtain ⟨p, q, hA0, hV, rfl, hfz, hnd⟩ := hW
  have hA : DataW.TrodAll enc Try.prog W 0 (fun _ => true) true Try.f4.params.toList args.toList ds p := hA0
  rw [Try.params4] at hA hval
  obtain ⟨v0, vs0, d0, ds0, p0, q0, hargs, rfl, rfl, h0, r0⟩ := trodAll_cons hA
  obtain ⟨rfl, rfl, rfl⟩ := trodAll_nil r0
  obtain rfl : args = #[v0] := by cases args; simp_all
  obtain ⟨rfl, rfl⟩ := trodVars_none hV
  have hk : ∀ W', Kept W W' → Rows.redoLastSpec.post enc Try.prog Try.f4 false true false false W #[v0] (.bool true) W' := fun W' hb =>
    post_law laidOut readable rfl Try.underlying4 rfl hW' rfl hb
  clear hA0 hval0 hA hW'
  obtain ⟨A0, n0, c0, rfl, l0, m0, s0⟩ := RlF.open_row (hval 0 22 v0 rfl rfl) h0
  refine (walk W A0 n0 c0 l0 m0 s0).mono fun e W' ⟨he, hg⟩ => ?_
  subst he
  exact ⟨_, rfl, hk W' hg⟩

theorem over : Rows.redoLastRow.holds Try.pinned (OpenSpec.ofChange Rows.redoLastSpec) :=
  OpenClaim.holds_of_wide 4 Try.f4 rfl rfl rfl rfl rfl rfl rfl ⟨rfl, rfl, rfl, rfl, rfl⟩ rfl rfl rfl rfl rfl (by kernel_rfl) Try.func4 (by kernel_rfl)
    (of_decide_eq_true (by kernel_rfl)) (by unfold Func.isWrapper; first | (rw [if_pos (by decide +kernel)]; kernel_rfl) | (rw [if_neg (by decide +kernel)]; exact ⟨rfl, rfl⟩))
    (fun os started H enc _ => lifted os started H enc)

/-- The statement. -/
theorem proved : Rows.RedoLastSaid :=
  over
#print axioms proved
end Go.Proofs.Ytelpimhgodkmlaa.redoLast
