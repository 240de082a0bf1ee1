/-
  The contract of the reader of package code: a script.
-/
import Derived.Test.YtafidppjabdecaaCodeL
import Derived.Test.YtafidppjabdecaaCodeJ
import Derived.Test.YtafidppjabdecaaCodeK
namespace Go.Proofs.Ytafidppjabdecaa.CodeM
open Go.ChangeShapes Go.WideShapes Go.ChangeAt Go.RowKit
open PlainT BlkW LawFrame CodeS CodeW CodeA CodeE CodeF CodeG CodeH CodeI CodeJ CodeK CodeL
set_option linter.unusedVariables false
set_option maxHeartbeats 1000000

/-- What is asked of no way. -/
def Ends : Exit → Act → World → Prop := fun _ _ _ => True
theorem decP_eq (l : List Int) : decP l = (rM l).bind fun r => (rC r).bind fun c => (rL rU c.2).bind fun i => (rL rP i.2).bind fun p => (rL rS p.2).bind fun k => if k.2 = [] then some ⟨c.1.1, c.1.2, i.1, p.1, k.1⟩ else none := by
  unfold decP rC
  cases rM l with
  | none => rfl
  | some r =>
    simp only [Option.bind_some]
    cases rN rS 12 r with
    | none => rfl
    | some c =>
      simp only [Option.bind_some]
      cases rF c.2 with
      | none => rfl
      | some f => rfl
/-- The value v holds the script s, in rows of the call's own from block B on. -/
def IsV (w : World) (B : Nat) (s : Scr) (v : Value) : Prop := ∃ x0 x1 x2 x3 x4 x5 x6 x7 x8 x9 x10 x11 Ai ci Ap cp Ak ck vs,
  s.cfg = [x0, x1, x2, x3, x4, x5, x6, x7, x8, x9, x10, x11] ∧
  v = .agg #[.int .i64 x0, .int .i64 x1, .int .i64 x2, .int .i64 x3, .int .i64 x4, .int .i64 x5, .int .i64 x6, .int .i64 x7, .int .i64 x8, .int .i64 x9, .int .i64 x10, .int .i64 x11, .bool s.strong, .slice Ai s.init.length ci, .slice Ap s.progs.length cp, .slice Ak s.picks.length ck] ∧
  w.ownsRow B 46 1 (.slice Ai s.init.length ci) s.init.length (cU s.init) ∧ PV w B vs s.progs ∧ w.ownsRow B 53 1 (.slice Ap s.progs.length cp) s.progs.length vs ∧ w.ownsRow B 3 1 (.slice Ak s.picks.length ck) s.picks.length (cS s.picks)
def ScIs (B g : Nat) (w : World) (l : List Int) (e : Ending) (w' : World) : Prop :=
  Fr TR B w w' ∧ ((decP l = none ∧ Fails e) ∨ ∃ s v, decP l = some s ∧ e = .returned v ∧ IsV w' w.heap.size s v)
theorem PV.mono {w : World} {B B' : Nat} {vs : List Value} {ps : List (List (List Int))} (h : PV w B vs ps) (hb : B' ≤ B) : PV w B' vs ps :=
  ⟨h.1, fun i p hp => by obtain ⟨A, c, h1, h2⟩ := h.2 i p hp; exact ⟨A, c, h1, own_mono h2 hb⟩⟩
theorem PV.of_blocks {w w' : World} {B : Nat} {vs : List Value} {ps : List (List (List Int))} (h : PV w B vs ps) (hb : ∀ (i : Nat) (cs : Array Value) (fr : Nat × Nat), w.heap[i]? = some (.cells cs 75 fr) → w'.heap[i]? = w.heap[i]?) : PV w' B vs ps :=
  ⟨h.1, fun i p hp => by
    obtain ⟨A, c, h1, h2⟩ := h.2 i p hp
    refine ⟨A, c, h1, own_of_block h2 fun g hg => ?_⟩
    obtain ⟨_, cs, t, fr, hh, rfl⟩ := own_row h2 g hg
    exact hb g cs fr hh⟩
set_option maxHeartbeats 8000000 in
set_option maxRecDepth 100000 in
theorem a_script (B g : Nat) (l : List Int) (w : World) (h : Rd B w g l) : Calls Try.prog 25 #[.pointer (some ⟨g, 0, none⟩)] w fun e w' => ScIs B g w l e w' := by
  have hB := h.2.1
  have hgl : g < w.heap.size := by obtain ⟨_, _, _, _, _, _, hm, _⟩ := h; exact hm.lt
  have hmf : ∀ (fn : Fn) (first cap : Array Value) (w : World), (Instr.makeFunc fn first cap).run Try.prog w = .ok (.func fn first cap) w := fun _ _ _ _ => rfl
  obtain ⟨w0, hw0⟩ : ∃ w0, w0 = w.alloc (.cells #[.int .i64 0, .int .i64 0, .int .i64 0, .int .i64 0, .int .i64 0, .int .i64 0, .int .i64 0, .int .i64 0, .int .i64 0, .int .i64 0, .int .i64 0, .int .i64 0, .bool false, .slice none 0 0, .slice none 0 0, .slice none 0 0] 29) := ⟨_, rfl⟩
  have H0 := Lib.hid (show Rd B w0 g l from hw0 ▸ h.alloc _)
  have F0 := Lib.hid (show Fr TR B w w0 from hw0 ▸ fr_newR hB _)
  have M0 := Lib.hid (show Mem w0 w.heap.size 29 #[.int .i64 0, .int .i64 0, .int .i64 0, .int .i64 0, .int .i64 0, .int .i64 0, .int .i64 0, .int .i64 0, .int .i64 0, .int .i64 0, .int .i64 0, .int .i64 0, .bool false, .slice none 0 0, .slice none 0 0, .slice none 0 0] from hw0 ▸ Mem.new w 29 _)
  go_enter Try.func25, Try.ntmps25
  go_wp2
  rw [← hw0]
  clear hw0
  go_loopw [5] (fun i wr => MInv B g w0 l i wr) (fun i _ => 4 - (intOf i).toNat)
  case atStart => exact ⟨0, l, by omega, rfl, H0.out, rM_chk l, Fr.refl _ _ _⟩
  case round =>
    obtain ⟨k, l', hk, rfl, hrd, hm, hfr⟩ := hrel
    have HM := Lib.hid hm
    clear hm
    by_cases hlt : k < 4
    · clear hmf
      cases l' with
      | nil =>
        have HN := Lib.hid (show decP l = none by
          rw [decP_eq, HM.out]
          obtain ⟨m, ms, e⟩ : ∃ m ms, ([83, 84, 88, 49] : List Int).drop k = m :: ms := by
            have : k = 0 ∨ k = 1 ∨ k = 2 ∨ k = 3 := by omega
            rcases this with rfl | rfl | rfl | rfl <;> exact ⟨_, _, rfl⟩
          rw [e]
          rfl)
        have F1 := Lib.hid (F0.out.trans hfr)
        have : k = 0 ∨ k = 1 ∨ k = 2 ∨ k = 3 := by omega
        rcases this with rfl | rfl | rfl | rfl
        all_goals
          go_wp2
          go_region_with ((go_at_call 36; refine (a_next_no B g _ (Rd.drew' hrd)).mono ?_; rintro e w1 ⟨rfl, rfl⟩; suffices _hw : wpAny Try.prog .any #[] Ends 0 #[] ⟨#[], []⟩ w from ⟨rfl, F1.out.drew, .inl ⟨HN.out, rfl⟩⟩))
          all_goals exact (trivial : True)
      | cons b r =>
        have this : k = 0 ∨ k = 1 ∨ k = 2 ∨ k = 3 := by omega
        rcases this with rfl | rfl | rfl | rfl
        · by_cases hbm : b = 83
          · subst hbm
            have HM2 := Lib.hid (show rM l = chk (([83, 84, 88, 49] : List Int).drop 1) r from HM.out.trans chk_ok)
            go_wp2
            go_region_with ((first | (go_at_call 36; refine (a_next_yes B g _ 83 r (Rd.drew' hrd)).mono ?_; rintro e w1 ⟨rfl, hrd1, hf1⟩) | (go_at_call 35; refine (a_require_yes _).mono ?_; rintro e w2 ⟨rfl, rfl⟩)))
            all_goals
              have F2 := Lib.hid (hfr.drew.trans hf1)
              clear hf1
              go_wp2
              go_roundw
              case rel => exact ⟨1, r, by omega, rfl, hrd1, HM2.out, F2.out⟩
              case measure => simp [intOf]
          · have HN := Lib.hid (show decP l = none by rw [decP_eq, HM.out.trans (chk_no hbm)]; rfl)
            go_wp2
            go_region_with ((first | (go_at_call 36; refine (a_next_yes B g _ b r (Rd.drew' hrd)).mono ?_; rintro e w1 ⟨rfl, hrd1, hf1⟩) | (go_at_call 35; refine (a_require_no' _ (beq_eq_false_iff_ne.2 hbm) _).mono ?_; rintro e w2 ⟨rfl, rfl⟩; suffices _hw : wpAny Try.prog .any #[] Ends 0 #[] ⟨#[], []⟩ w from ⟨rfl, (F0.out.trans hfr).drew.trans hf1, .inl ⟨HN.out, rfl⟩⟩)))
            all_goals exact (trivial : True)
        · by_cases hbm : b = 84
          · subst hbm
            have HM2 := Lib.hid (show rM l = chk (([83, 84, 88, 49] : List Int).drop 2) r from HM.out.trans chk_ok)
            go_wp2
            go_region_with ((first | (go_at_call 36; refine (a_next_yes B g _ 84 r (Rd.drew' hrd)).mono ?_; rintro e w1 ⟨rfl, hrd1, hf1⟩) | (go_at_call 35; refine (a_require_yes _).mono ?_; rintro e w2 ⟨rfl, rfl⟩)))
            all_goals
              have F2 := Lib.hid (hfr.drew.trans hf1)
              clear hf1
              go_wp2
              go_roundw
              case rel => exact ⟨2, r, by omega, rfl, hrd1, HM2.out, F2.out⟩
              case measure => simp [intOf]
          · have HN := Lib.hid (show decP l = none by rw [decP_eq, HM.out.trans (chk_no hbm)]; rfl)
            go_wp2
            go_region_with ((first | (go_at_call 36; refine (a_next_yes B g _ b r (Rd.drew' hrd)).mono ?_; rintro e w1 ⟨rfl, hrd1, hf1⟩) | (go_at_call 35; refine (a_require_no' _ (beq_eq_false_iff_ne.2 hbm) _).mono ?_; rintro e w2 ⟨rfl, rfl⟩; suffices _hw : wpAny Try.prog .any #[] Ends 0 #[] ⟨#[], []⟩ w from ⟨rfl, (F0.out.trans hfr).drew.trans hf1, .inl ⟨HN.out, rfl⟩⟩)))
            all_goals exact (trivial : True)
        · by_cases hbm : b = 88
          · subst hbm
            have HM2 := Lib.hid (show rM l = chk (([83, 84, 88, 49] : List Int).drop 3) r from HM.out.trans chk_ok)
            go_wp2
            go_region_with ((first | (go_at_call 36; refine (a_next_yes B g _ 88 r (Rd.drew' hrd)).mono ?_; rintro e w1 ⟨rfl, hrd1, hf1⟩) | (go_at_call 35; refine (a_require_yes _).mono ?_; rintro e w2 ⟨rfl, rfl⟩)))
            all_goals
              have F2 := Lib.hid (hfr.drew.trans hf1)
              clear hf1
              go_wp2
              go_roundw
              case rel => exact ⟨3, r, by omega, rfl, hrd1, HM2.out, F2.out⟩
              case measure => simp [intOf]
          · have HN := Lib.hid (show decP l = none by rw [decP_eq, HM.out.trans (chk_no hbm)]; rfl)
            go_wp2
            go_region_with ((first | (go_at_call 36; refine (a_next_yes B g _ b r (Rd.drew' hrd)).mono ?_; rintro e w1 ⟨rfl, hrd1, hf1⟩) | (go_at_call 35; refine (a_require_no' _ (beq_eq_false_iff_ne.2 hbm) _).mono ?_; rintro e w2 ⟨rfl, rfl⟩; suffices _hw : wpAny Try.prog .any #[] Ends 0 #[] ⟨#[], []⟩ w from ⟨rfl, (F0.out.trans hfr).drew.trans hf1, .inl ⟨HN.out, rfl⟩⟩)))
            all_goals exact (trivial : True)
        · by_cases hbm : b = 49
          · subst hbm
            have HM2 := Lib.hid (show rM l = chk (([83, 84, 88, 49] : List Int).drop 4) r from HM.out.trans chk_ok)
            go_wp2
            go_region_with ((first | (go_at_call 36; refine (a_next_yes B g _ 49 r (Rd.drew' hrd)).mono ?_; rintro e w1 ⟨rfl, hrd1, hf1⟩) | (go_at_call 35; refine (a_require_yes _).mono ?_; rintro e w2 ⟨rfl, rfl⟩)))
            all_goals
              have F2 := Lib.hid (hfr.drew.trans hf1)
              clear hf1
              go_wp2
              go_roundw
              case rel => exact ⟨4, r, by omega, rfl, hrd1, HM2.out, F2.out⟩
              case measure => simp [intOf]
          · have HN := Lib.hid (show decP l = none by rw [decP_eq, HM.out.trans (chk_no hbm)]; rfl)
            go_wp2
            go_region_with ((first | (go_at_call 36; refine (a_next_yes B g _ b r (Rd.drew' hrd)).mono ?_; rintro e w1 ⟨rfl, hrd1, hf1⟩) | (go_at_call 35; refine (a_require_no' _ (beq_eq_false_iff_ne.2 hbm) _).mono ?_; rintro e w2 ⟨rfl, rfl⟩; suffices _hw : wpAny Try.prog .any #[] Ends 0 #[] ⟨#[], []⟩ w from ⟨rfl, (F0.out.trans hfr).drew.trans hf1, .inl ⟨HN.out, rfl⟩⟩)))
            all_goals exact (trivial : True)
    · obtain rfl : k = 4 := by omega
      have r1 := hrd
      have F1 := Lib.hid (F0.out.trans hfr)
      have M1 := Lib.hid (Mem.fr M0.out hfr (by unfold TR; decide))
      have HD := Lib.hid (show decP l = (rC l').bind fun c => (rL rU c.2).bind fun i => (rL rP i.2).bind fun p => (rL rS p.2).bind fun k => if k.2 = [] then some ⟨c.1.1, c.1.2, i.1, p.1, k.1⟩ else none by rw [decP_eq, HM.out]; rfl)
      clear hrd hfr HM hk hlt H0
      go_wp2_with fail
      refine (a_rconfig B g l' _ r1).mono ?_
      rintro e w2 ⟨hf2, h2⟩
      have F2 := Lib.hid (F1.out.trans hf2)
      have M2 := Lib.hid (Mem.fr M1.out hf2 (by unfold TR; decide))
      rcases h2 with ⟨hn, rfl⟩ | ⟨x0, x1, x2, x3, x4, x5, x6, x7, x8, x9, x10, x11, s, l2, hc2, rfl, r2⟩
      · have HN := Lib.hid (show decP l = none by rw [HD.out, hn]; rfl)
        exact ⟨rfl, F2.out, .inl ⟨HN.out, rfl⟩⟩
      have HD2 := Lib.hid (show decP l = (rL rU l2).bind fun i => (rL rP i.2).bind fun p => (rL rS p.2).bind fun k => if k.2 = [] then some ⟨[x0, x1, x2, x3, x4, x5, x6, x7, x8, x9, x10, x11], s, i.1, p.1, k.1⟩ else none by rw [HD.out, hc2]; rfl)
      clear hc2 hf2 r1
      go_wp2_with fail
      refine (a_listU B g l2 _ r2).mono ?_
      rintro e w3 ⟨hf3, h3⟩
      have F3 := Lib.hid (F2.out.trans hf3)
      have M3 := Lib.hid (Mem.fr M2.out hf3 (by unfold TR; decide))
      rcases h3 with ⟨hn, rfl⟩ | ⟨i, l3, Ai, ci, hi3, rfl, r3, oi3⟩
      · have HN := Lib.hid (show decP l = none by rw [HD2.out, hn]; rfl)
        exact ⟨rfl, F3.out, .inl ⟨HN.out, rfl⟩⟩
      have HD3 := Lib.hid (show decP l = (rL rP l3).bind fun p => (rL rS p.2).bind fun k => if k.2 = [] then some ⟨[x0, x1, x2, x3, x4, x5, x6, x7, x8, x9, x10, x11], s, i, p.1, k.1⟩ else none by rw [HD2.out, hi3]; rfl)
      have OI3 := Lib.hid (own_mono oi3 F2.out.size)
      clear hi3 hf3 r2 oi3
      go_wp2_with fail
      refine (a_listP B g l3 _ r3).mono ?_
      rintro e w4 ⟨hf4, h4⟩
      have F4 := Lib.hid (F3.out.trans hf4)
      have M4 := Lib.hid (Mem.fr M3.out hf4 (by unfold TR; decide))
      have OI4 := Lib.hid (own_fr OI3.out hf4 (by unfold TR; decide))
      rcases h4 with ⟨hn, rfl⟩ | ⟨vs, p, l4, Ap, cp, pv4, hp4, rfl, r4, op4⟩
      · have HN := Lib.hid (show decP l = none by rw [HD3.out, hn]; rfl)
        exact ⟨rfl, F4.out, .inl ⟨HN.out, rfl⟩⟩
      have HD4 := Lib.hid (show decP l = (rL rS l4).bind fun k => if k.2 = [] then some ⟨[x0, x1, x2, x3, x4, x5, x6, x7, x8, x9, x10, x11], s, i, p, k.1⟩ else none by rw [HD3.out, hp4]; rfl)
      have OP4 := Lib.hid (own_mono op4 F3.out.size)
      have PV4 := Lib.hid (PV.mono pv4 F3.out.size)
      clear hp4 hf4 r3 op4 pv4
      go_wp2_with fail
      refine (a_listS B g l4 _ r4).mono ?_
      rintro e w5 ⟨hf5, h5⟩
      have F5 := Lib.hid (F4.out.trans hf5)
      have M5 := Lib.hid (Mem.fr M4.out hf5 (by unfold TR; decide))
      have OI5 := Lib.hid (own_fr OI4.out hf5 (by unfold TR; decide))
      have OP5 := Lib.hid (own_fr OP4.out hf5 (by unfold TR; decide))
      have PV5 := Lib.hid (PV.fr PV4.out hf5 (by unfold TR; decide))
      rcases h5 with ⟨hn, rfl⟩ | ⟨kk, l5, Ak, ck, hk5, rfl, r5, ok5⟩
      · have HN := Lib.hid (show decP l = none by rw [HD4.out, hn]; rfl)
        exact ⟨rfl, F5.out, .inl ⟨HN.out, rfl⟩⟩
      have HD5 := Lib.hid (show decP l = if l5 = [] then some ⟨[x0, x1, x2, x3, x4, x5, x6, x7, x8, x9, x10, x11], s, i, p, kk⟩ else none by rw [HD4.out, hk5]; rfl)
      have OK5 := Lib.hid (own_mono ok5 F4.out.size)
      obtain ⟨_, _, hl5, A5, n5, c5, hm5, hn5, hc5, hi5, _⟩ := r5
      have hz5 := F5.out.size
      have hlen : n5 = l5.length := hi5.1.symm
      have d5 : (w5.alloc (.cells #[.int .i64 x0, .int .i64 x1, .int .i64 x2, .int .i64 x3, .int .i64 x4, .int .i64 x5, .int .i64 x6, .int .i64 x7, .int .i64 x8, .int .i64 x9, .int .i64 x10, .int .i64 x11, .bool s, .slice Ai i.length ci, .slice Ap p.length cp, .slice Ak kk.length ck] 29)).cell? ⟨g, 0, none⟩ = some (.slice A5 n5 c5) := (hm5.alloc _).cell 0
      have m6 := M5.out.alloc (.cells #[.int .i64 x0, .int .i64 x1, .int .i64 x2, .int .i64 x3, .int .i64 x4, .int .i64 x5, .int .i64 x6, .int .i64 x7, .int .i64 x8, .int .i64 x9, .int .i64 x10, .int .i64 x11, .bool s, .slice Ai i.length ci, .slice Ap p.length cp, .slice Ak kk.length ck] 29)
      have v6 := m6.frozen
      have o0 : (w5.alloc (.cells #[.int .i64 x0, .int .i64 x1, .int .i64 x2, .int .i64 x3, .int .i64 x4, .int .i64 x5, .int .i64 x6, .int .i64 x7, .int .i64 x8, .int .i64 x9, .int .i64 x10, .int .i64 x11, .bool s, .slice Ai i.length ci, .slice Ap p.length cp, .slice Ak kk.length ck] 29)).cell? ⟨w.heap.size, 0, none⟩ = some (.int .i64 0) := m6.cell 0
      have o1 : (w5.alloc (.cells #[.int .i64 x0, .int .i64 x1, .int .i64 x2, .int .i64 x3, .int .i64 x4, .int .i64 x5, .int .i64 x6, .int .i64 x7, .int .i64 x8, .int .i64 x9, .int .i64 x10, .int .i64 x11, .bool s, .slice Ai i.length ci, .slice Ap p.length cp, .slice Ak kk.length ck] 29)).cell? ⟨w.heap.size, 1, none⟩ = some (.int .i64 0) := m6.cell 1
      have o2 : (w5.alloc (.cells #[.int .i64 x0, .int .i64 x1, .int .i64 x2, .int .i64 x3, .int .i64 x4, .int .i64 x5, .int .i64 x6, .int .i64 x7, .int .i64 x8, .int .i64 x9, .int .i64 x10, .int .i64 x11, .bool s, .slice Ai i.length ci, .slice Ap p.length cp, .slice Ak kk.length ck] 29)).cell? ⟨w.heap.size, 2, none⟩ = some (.int .i64 0) := m6.cell 2
      have o3 : (w5.alloc (.cells #[.int .i64 x0, .int .i64 x1, .int .i64 x2, .int .i64 x3, .int .i64 x4, .int .i64 x5, .int .i64 x6, .int .i64 x7, .int .i64 x8, .int .i64 x9, .int .i64 x10, .int .i64 x11, .bool s, .slice Ai i.length ci, .slice Ap p.length cp, .slice Ak kk.length ck] 29)).cell? ⟨w.heap.size, 3, none⟩ = some (.int .i64 0) := m6.cell 3
      have o4 : (w5.alloc (.cells #[.int .i64 x0, .int .i64 x1, .int .i64 x2, .int .i64 x3, .int .i64 x4, .int .i64 x5, .int .i64 x6, .int .i64 x7, .int .i64 x8, .int .i64 x9, .int .i64 x10, .int .i64 x11, .bool s, .slice Ai i.length ci, .slice Ap p.length cp, .slice Ak kk.length ck] 29)).cell? ⟨w.heap.size, 4, none⟩ = some (.int .i64 0) := m6.cell 4
      have o5 : (w5.alloc (.cells #[.int .i64 x0, .int .i64 x1, .int .i64 x2, .int .i64 x3, .int .i64 x4, .int .i64 x5, .int .i64 x6, .int .i64 x7, .int .i64 x8, .int .i64 x9, .int .i64 x10, .int .i64 x11, .bool s, .slice Ai i.length ci, .slice Ap p.length cp, .slice Ak kk.length ck] 29)).cell? ⟨w.heap.size, 5, none⟩ = some (.int .i64 0) := m6.cell 5
      have o6 : (w5.alloc (.cells #[.int .i64 x0, .int .i64 x1, .int .i64 x2, .int .i64 x3, .int .i64 x4, .int .i64 x5, .int .i64 x6, .int .i64 x7, .int .i64 x8, .int .i64 x9, .int .i64 x10, .int .i64 x11, .bool s, .slice Ai i.length ci, .slice Ap p.length cp, .slice Ak kk.length ck] 29)).cell? ⟨w.heap.size, 6, none⟩ = some (.int .i64 0) := m6.cell 6
      have o7 : (w5.alloc (.cells #[.int .i64 x0, .int .i64 x1, .int .i64 x2, .int .i64 x3, .int .i64 x4, .int .i64 x5, .int .i64 x6, .int .i64 x7, .int .i64 x8, .int .i64 x9, .int .i64 x10, .int .i64 x11, .bool s, .slice Ai i.length ci, .slice Ap p.length cp, .slice Ak kk.length ck] 29)).cell? ⟨w.heap.size, 7, none⟩ = some (.int .i64 0) := m6.cell 7
      have o8 : (w5.alloc (.cells #[.int .i64 x0, .int .i64 x1, .int .i64 x2, .int .i64 x3, .int .i64 x4, .int .i64 x5, .int .i64 x6, .int .i64 x7, .int .i64 x8, .int .i64 x9, .int .i64 x10, .int .i64 x11, .bool s, .slice Ai i.length ci, .slice Ap p.length cp, .slice Ak kk.length ck] 29)).cell? ⟨w.heap.size, 8, none⟩ = some (.int .i64 0) := m6.cell 8
      have o9 : (w5.alloc (.cells #[.int .i64 x0, .int .i64 x1, .int .i64 x2, .int .i64 x3, .int .i64 x4, .int .i64 x5, .int .i64 x6, .int .i64 x7, .int .i64 x8, .int .i64 x9, .int .i64 x10, .int .i64 x11, .bool s, .slice Ai i.length ci, .slice Ap p.length cp, .slice Ak kk.length ck] 29)).cell? ⟨w.heap.size, 9, none⟩ = some (.int .i64 0) := m6.cell 9
      have o10 : (w5.alloc (.cells #[.int .i64 x0, .int .i64 x1, .int .i64 x2, .int .i64 x3, .int .i64 x4, .int .i64 x5, .int .i64 x6, .int .i64 x7, .int .i64 x8, .int .i64 x9, .int .i64 x10, .int .i64 x11, .bool s, .slice Ai i.length ci, .slice Ap p.length cp, .slice Ak kk.length ck] 29)).cell? ⟨w.heap.size, 10, none⟩ = some (.int .i64 0) := m6.cell 10
      have o11 : (w5.alloc (.cells #[.int .i64 x0, .int .i64 x1, .int .i64 x2, .int .i64 x3, .int .i64 x4, .int .i64 x5, .int .i64 x6, .int .i64 x7, .int .i64 x8, .int .i64 x9, .int .i64 x10, .int .i64 x11, .bool s, .slice Ai i.length ci, .slice Ap p.length cp, .slice Ak kk.length ck] 29)).cell? ⟨w.heap.size, 11, none⟩ = some (.int .i64 0) := m6.cell 11
      have o12 : (w5.alloc (.cells #[.int .i64 x0, .int .i64 x1, .int .i64 x2, .int .i64 x3, .int .i64 x4, .int .i64 x5, .int .i64 x6, .int .i64 x7, .int .i64 x8, .int .i64 x9, .int .i64 x10, .int .i64 x11, .bool s, .slice Ai i.length ci, .slice Ap p.length cp, .slice Ak kk.length ck] 29)).cell? ⟨w.heap.size, 12, none⟩ = some (.bool false) := m6.cell 12
      have o13 : (w5.alloc (.cells #[.int .i64 x0, .int .i64 x1, .int .i64 x2, .int .i64 x3, .int .i64 x4, .int .i64 x5, .int .i64 x6, .int .i64 x7, .int .i64 x8, .int .i64 x9, .int .i64 x10, .int .i64 x11, .bool s, .slice Ai i.length ci, .slice Ap p.length cp, .slice Ak kk.length ck] 29)).cell? ⟨w.heap.size, 13, none⟩ = some (.slice none 0 0) := m6.cell 13
      have o14 : (w5.alloc (.cells #[.int .i64 x0, .int .i64 x1, .int .i64 x2, .int .i64 x3, .int .i64 x4, .int .i64 x5, .int .i64 x6, .int .i64 x7, .int .i64 x8, .int .i64 x9, .int .i64 x10, .int .i64 x11, .bool s, .slice Ai i.length ci, .slice Ap p.length cp, .slice Ak kk.length ck] 29)).cell? ⟨w.heap.size, 14, none⟩ = some (.slice none 0 0) := m6.cell 14
      have o15 : (w5.alloc (.cells #[.int .i64 x0, .int .i64 x1, .int .i64 x2, .int .i64 x3, .int .i64 x4, .int .i64 x5, .int .i64 x6, .int .i64 x7, .int .i64 x8, .int .i64 x9, .int .i64 x10, .int .i64 x11, .bool s, .slice Ai i.length ci, .slice Ap p.length cp, .slice Ak kk.length ck] 29)).cell? ⟨w.heap.size, 15, none⟩ = some (.slice none 0 0) := m6.cell 15
      have M6 := Lib.hid m6
      clear m6
      have hgl5 := hm5.lt
      clear hk5 hf5 r4 ok5 hi5 hm5 HD HD2 HD3 HD4 F1 F2 F3 F4 M0 M1 M2 M3 M4 OI3 OI4 OP4 PV4 F0
      unfold maxLen at hc5
      by_cases hnil : l5 = []
      · subst hnil
        obtain rfl : n5 = 0 := hlen
        have HY := Lib.hid (show decP l = some ⟨[x0, x1, x2, x3, x4, x5, x6, x7, x8, x9, x10, x11], s, i, p, kk⟩ by rw [HD5.out, if_pos rfl])
        clear HD5
        go_wp2_with (go_at_call 35; refine (a_require_yes _).mono ?_; rintro e w6 ⟨rfl, rfl⟩)
        have hw5 : B ≤ w5.heap.size := by omega
        have hY := sets_mem w.heap.size 29 [.int .i64 x0, .int .i64 x1, .int .i64 x2, .int .i64 x3, .int .i64 x4, .int .i64 x5, .int .i64 x6, .int .i64 x7, .int .i64 x8, .int .i64 x9, .int .i64 x10, .int .i64 x11, .bool s, .slice Ai i.length ci, .slice Ap p.length cp, .slice Ak kk.length ck] _ [] [.int .i64 0, .int .i64 0, .int .i64 0, .int .i64 0, .int .i64 0, .int .i64 0, .int .i64 0, .int .i64 0, .int .i64 0, .int .i64 0, .int .i64 0, .int .i64 0, .bool false, .slice none 0 0, .slice none 0 0, .slice none 0 0] M6.out rfl
        have hFF := Fr.sets (F5.out.alloc hw5 (.cells #[.int .i64 x0, .int .i64 x1, .int .i64 x2, .int .i64 x3, .int .i64 x4, .int .i64 x5, .int .i64 x6, .int .i64 x7, .int .i64 x8, .int .i64 x9, .int .i64 x10, .int .i64 x11, .bool s, .slice Ai i.length ci, .slice Ap p.length cp, .slice Ak kk.length ck] 29)) hB (Nat.le_refl w.heap.size) 0 [.int .i64 x0, .int .i64 x1, .int .i64 x2, .int .i64 x3, .int .i64 x4, .int .i64 x5, .int .i64 x6, .int .i64 x7, .int .i64 x8, .int .i64 x9, .int .i64 x10, .int .i64 x11, .bool s, .slice Ai i.length ci, .slice Ap p.length cp, .slice Ak kk.length ck]
        have hsh := sets_heap w.heap.size [.int .i64 x0, .int .i64 x1, .int .i64 x2, .int .i64 x3, .int .i64 x4, .int .i64 x5, .int .i64 x6, .int .i64 x7, .int .i64 x8, .int .i64 x9, .int .i64 x10, .int .i64 x11, .bool s, .slice Ai i.length ci, .slice Ap p.length cp, .slice Ak kk.length ck] (w5.alloc (.cells #[.int .i64 x0, .int .i64 x1, .int .i64 x2, .int .i64 x3, .int .i64 x4, .int .i64 x5, .int .i64 x6, .int .i64 x7, .int .i64 x8, .int .i64 x9, .int .i64 x10, .int .i64 x11, .bool s, .slice Ai i.length ci, .slice Ap p.length cp, .slice Ak kk.length ck] 29)) 0
        have v1 := own_of_block (OI5.out.alloc (.cells #[.int .i64 x0, .int .i64 x1, .int .i64 x2, .int .i64 x3, .int .i64 x4, .int .i64 x5, .int .i64 x6, .int .i64 x7, .int .i64 x8, .int .i64 x9, .int .i64 x10, .int .i64 x11, .bool s, .slice Ai i.length ci, .slice Ap p.length cp, .slice Ak kk.length ck] 29)) (fun k hk => hsh k (fun e => own_ne_mem (OI5.out.alloc (.cells #[.int .i64 x0, .int .i64 x1, .int .i64 x2, .int .i64 x3, .int .i64 x4, .int .i64 x5, .int .i64 x6, .int .i64 x7, .int .i64 x8, .int .i64 x9, .int .i64 x10, .int .i64 x11, .bool s, .slice Ai i.length ci, .slice Ap p.length cp, .slice Ak kk.length ck] 29)) M6.out (by decide) (e ▸ hk)))
        have v2 := PV.of_blocks (PV.alloc PV5.out (.cells #[.int .i64 x0, .int .i64 x1, .int .i64 x2, .int .i64 x3, .int .i64 x4, .int .i64 x5, .int .i64 x6, .int .i64 x7, .int .i64 x8, .int .i64 x9, .int .i64 x10, .int .i64 x11, .bool s, .slice Ai i.length ci, .slice Ap p.length cp, .slice Ak kk.length ck] 29)) (fun k cs fr hk => hsh k (fun e => by
          have hM := M6.out
          unfold Mem at hM
          rw [e, hM] at hk
          injection hk with hk
          injection hk with _ e2
          exact absurd e2 (by decide)))
        have v3 := own_of_block (OP5.out.alloc (.cells #[.int .i64 x0, .int .i64 x1, .int .i64 x2, .int .i64 x3, .int .i64 x4, .int .i64 x5, .int .i64 x6, .int .i64 x7, .int .i64 x8, .int .i64 x9, .int .i64 x10, .int .i64 x11, .bool s, .slice Ai i.length ci, .slice Ap p.length cp, .slice Ak kk.length ck] 29)) (fun k hk => hsh k (fun e => own_ne_mem (OP5.out.alloc (.cells #[.int .i64 x0, .int .i64 x1, .int .i64 x2, .int .i64 x3, .int .i64 x4, .int .i64 x5, .int .i64 x6, .int .i64 x7, .int .i64 x8, .int .i64 x9, .int .i64 x10, .int .i64 x11, .bool s, .slice Ai i.length ci, .slice Ap p.length cp, .slice Ak kk.length ck] 29)) M6.out (by decide) (e ▸ hk)))
        have v4 := own_of_block (OK5.out.alloc (.cells #[.int .i64 x0, .int .i64 x1, .int .i64 x2, .int .i64 x3, .int .i64 x4, .int .i64 x5, .int .i64 x6, .int .i64 x7, .int .i64 x8, .int .i64 x9, .int .i64 x10, .int .i64 x11, .bool s, .slice Ai i.length ci, .slice Ap p.length cp, .slice Ak kk.length ck] 29)) (fun k hk => hsh k (fun e => own_ne_mem (OK5.out.alloc (.cells #[.int .i64 x0, .int .i64 x1, .int .i64 x2, .int .i64 x3, .int .i64 x4, .int .i64 x5, .int .i64 x6, .int .i64 x7, .int .i64 x8, .int .i64 x9, .int .i64 x10, .int .i64 x11, .bool s, .slice Ai i.length ci, .slice Ap p.length cp, .slice Ak kk.length ck] 29)) M6.out (by decide) (e ▸ hk)))
        refine (show bodyPost _ _ _ _ _ (sets (w5.alloc (.cells #[.int .i64 x0, .int .i64 x1, .int .i64 x2, .int .i64 x3, .int .i64 x4, .int .i64 x5, .int .i64 x6, .int .i64 x7, .int .i64 x8, .int .i64 x9, .int .i64 x10, .int .i64 x11, .bool s, .slice Ai i.length ci, .slice Ap p.length cp, .slice Ak kk.length ck] 29)) w.heap.size 0 [.int .i64 x0, .int .i64 x1, .int .i64 x2, .int .i64 x3, .int .i64 x4, .int .i64 x5, .int .i64 x6, .int .i64 x7, .int .i64 x8, .int .i64 x9, .int .i64 x10, .int .i64 x11, .bool s, .slice Ai i.length ci, .slice Ap p.length cp, .slice Ak kk.length ck]) from ?_)
        refine bodyPost_ret (v := .agg #[.int .i64 x0, .int .i64 x1, .int .i64 x2, .int .i64 x3, .int .i64 x4, .int .i64 x5, .int .i64 x6, .int .i64 x7, .int .i64 x8, .int .i64 x9, .int .i64 x10, .int .i64 x11, .bool s, .slice Ai i.length ci, .slice Ap p.length cp, .slice Ak kk.length ck]) ?_ rfl ⟨hFF, .inr ⟨_, _, HY.out, rfl, x0, x1, x2, x3, x4, x5, x6, x7, x8, x9, x10, x11, Ai, ci, Ap, cp, Ak, ck, vs, rfl, rfl, v1, v2, v3, v4⟩⟩
        generalize sets (w5.alloc (.cells #[.int .i64 x0, .int .i64 x1, .int .i64 x2, .int .i64 x3, .int .i64 x4, .int .i64 x5, .int .i64 x6, .int .i64 x7, .int .i64 x8, .int .i64 x9, .int .i64 x10, .int .i64 x11, .bool s, .slice Ai i.length ci, .slice Ap p.length cp, .slice Ak kk.length ck] 29)) w.heap.size 0 [.int .i64 x0, .int .i64 x1, .int .i64 x2, .int .i64 x3, .int .i64 x4, .int .i64 x5, .int .i64 x6, .int .i64 x7, .int .i64 x8, .int .i64 x9, .int .i64 x10, .int .i64 x11, .bool s, .slice Ai i.length ci, .slice Ap p.length cp, .slice Ak kk.length ck] = wf at hY
        have y0 := hY.cell 0
        have y1 := hY.cell 1
        have y2 := hY.cell 2
        have y3 := hY.cell 3
        have y4 := hY.cell 4
        have y5 := hY.cell 5
        have y6 := hY.cell 6
        have y7 := hY.cell 7
        have y8 := hY.cell 8
        have y9 := hY.cell 9
        have y10 := hY.cell 10
        have y11 := hY.cell 11
        have y12 := hY.cell 12
        have y13 := hY.cell 13
        have y14 := hY.cell 14
        have y15 := hY.cell 15
        simp at y0 y1 y2 y3 y4 y5 y6 y7 y8 y9 y10 y11 y12 y13 y14 y15
        simp [results, Try.results25, go_sem, y0, y1, y2, y3, y4, y5, y6, y7, y8, y9, y10, y11, y12, y13, y14, y15]
      · have hne : (((n5 : Nat) : Int) == 0) = false := by
          rw [beq_eq_false_iff_ne]
          intro h0
          exact hnil (List.eq_nil_of_length_eq_zero (by omega))
        have HN := Lib.hid (show decP l = none by rw [HD5.out, if_neg hnil])
        clear HD5 hlen hnil
        go_wp2_with (go_at_call 35; refine (a_require_no' _ (by first | rfl | exact hne | simpa using hne) _).mono ?_; rintro e w6 ⟨rfl, rfl⟩)
        exact ⟨rfl, F5.out.alloc (by omega) _, .inl ⟨HN.out, rfl⟩⟩
end Go.Proofs.Ytafidppjabdecaa.CodeM
