/-
  The reference's bytes of a script.
-/
import Derived.Test.YtafidppjabdecaaCodeSame
import Derived.Test.YtafidppjabdecaaCodeC
import Derived.Test.YtafidppjabdecaaCodeD
import Derived.Deep.DeepCutAuto
import Derived.Deep.RegionHeld3
namespace Go.Proofs.Ytafidppjabdecaa.CodeY
open Go.ChangeShapes Go.WideShapes Go.ChangeAt Go.RowKit
open PlainT BlkW LawFrame CodeS CodeW CodeA CodeSame CodeC
set_option linter.unusedVariables false
set_option maxHeartbeats 1000000

theorem fr_newB {B : Nat} {w : World} (hB : B ≤ w.heap.size) (o : Obj) : Fr TB B w (w.alloc o) := Fr.of_below (below_new w o) hB
def RB (B : Nat) (w4 : World) (sp : List Int) (v : Value) (wr : World) : Prop := Rw B wr v sp ∧ Fr TB B w4 wr ∧ B ≤ wr.heap.size
def LB {α : Type} (B : Nat) (w4 : World) (sp : List Int) (f : α → List Int) (z : List α) (n : Nat) (v i : Value) (wr : World) : Prop := ∃ k : Nat, k ≤ n ∧ i = .int .i64 k ∧ RB B w4 (sp ++ (z.take k).flatMap f) v wr
def CB (B : Nat) (w4 : World) (sp : List Int) (v : Value) (wr : World) : Prop := RB B w4 sp v wr
theorem RB.slice {B : Nat} {w4 wr : World} {sp : List Int} {v : Value} (h : RB B w4 sp v wr) : ∃ A n c, v = .slice A n c := by
  obtain ⟨A, c, e, _⟩ := h.1.slice
  exact ⟨A, _, c, e⟩
theorem RB.of {B : Nat} {w4 wr w' : World} {sp sp' : List Int} {v : Value} {e : Ending} (h : RB B w4 sp v wr) (k : BIs B wr sp' e w') : ∃ A n c, e = .returned (.slice A n c) ∧ RB B w4 sp' (.slice A n c) w' := by
  obtain ⟨⟨A, c, e1, h1⟩, h2, h3⟩ := k
  exact ⟨A, _, c, e1, h1, h.2.1.trans h2, h3⟩
theorem RB.last {α : Type} {B : Nat} {w4 wr : World} {sp : List Int} {f : α → List Int} {z : List α} {k : Nat} {v : Value} (h : RB B w4 (sp ++ (z.take k).flatMap f) v wr) (hk : z.length ≤ k) : RB B w4 (sp ++ z.flatMap f) v wr := by
  rwa [List.take_of_length_le hk] at h
theorem r_step {B : Nat} {w4 w : World} {sp : List Int} {v : Value} {x : Int} (h : RB B w4 sp v w) (hx : InI x) (hl : sp.length ≤ 900000000000) : Calls Try.prog 33 #[v, .int .i64 x] w fun e w' => ∃ A n c, e = .returned (.slice A n c) ∧ RB B w4 (sp ++ sB x) (.slice A n c) w' ∧ Fr TB B w w' ∧ B ≤ w'.heap.size :=
  (r_signed B v sp x w h.1 h.2.2 hx hl _ rfl).mono fun e w' hb => by
    obtain ⟨A, n, c, e1, h1⟩ := RB.of h hb
    exact ⟨A, n, c, e1, h1, hb.2.1, hb.2.2⟩
def HI5 (g : Nat) (x0 x1 x2 x3 x4 : Int) (w : World) : Prop := Mem w g 75 #[.int .i64 x0, .int .i64 x1, .int .i64 x2, .int .i64 x3, .int .i64 x4]
abbrev HeldI (g : Nat) (x0 x1 x2 x3 x4 : Int) (w : World) : Prop :=
  w.cell? ⟨g, 0, none⟩ = some (.int .i64 x0) ∧ w.cell? ⟨g, 1, none⟩ = some (.int .i64 x1) ∧ w.cell? ⟨g, 2, none⟩ = some (.int .i64 x2) ∧ w.cell? ⟨g, 3, none⟩ = some (.int .i64 x3) ∧ w.cell? ⟨g, 4, none⟩ = some (.int .i64 x4) ∧ HI5 g x0 x1 x2 x3 x4 w
theorem heldI_of {g : Nat} {x0 x1 x2 x3 x4 : Int} {w : World} (h : HI5 g x0 x1 x2 x3 x4 w) : HeldI g x0 x1 x2 x3 x4 w := ⟨Mem.cell h 0, Mem.cell h 1, Mem.cell h 2, Mem.cell h 3, Mem.cell h 4, h⟩
theorem heldI_drew {g : Nat} {x0 x1 x2 x3 x4 : Int} {w : World} (h : HI5 g x0 x1 x2 x3 x4 w) : HeldI g x0 x1 x2 x3 x4 w.drew := heldI_of (w := w.drew) h
theorem heldI_keep {B g : Nat} {x0 x1 x2 x3 x4 : Int} {w w' : World} (h : HeldI g x0 x1 x2 x3 x4 w) (hf : Fr TB B w w') : HeldI g x0 x1 x2 x3 x4 w' := heldI_of (Mem.fr (show Mem w g _ _ from h.2.2.2.2.2) hf (by unfold TB; decide))
theorem PPRow.base {w : World} {B n b off : Nat} {ps : List (List (List Int))} (h : PPRow w B (some ⟨b, off, none⟩) n ps) (hn : 0 < n) : b < B := by
  obtain ⟨b', off', e, hB, _⟩ := h.2 hn
  cases e
  exact hB
theorem app_le {a b : List Int} {N : Nat} (h : (a ++ b).length ≤ N) : a.length ≤ N := by
  rw [List.length_append] at h
  omega
set_option maxHeartbeats 8000000 in
set_option maxRecDepth 100000 in
theorem r_bytes (x0 x1 x2 x3 x4 x5 x6 x7 x8 x9 x10 x11 : Int) (st : Bool) (hi : ∀ x ∈ [x0, x1, x2, x3, x4, x5, x6, x7, x8, x9, x10, x11], InI x)
    (Ai Ap Ak : Option Addr) (ni ci np cp nk ck : Nat) (zi zk : List Int) (ps : List (List (List Int))) (w : World) (hzi : Ints .u64 w Ai ni zi) (hps : PPRow w w.heap.size Ap np ps) (hzk : Ints .i64 w Ak nk zk)
    (li : ni ≤ maxLen) (lp : np ≤ maxLen) (lk : nk ≤ maxLen) (l : List Int) (hl : bytesOf ⟨[x0, x1, x2, x3, x4, x5, x6, x7, x8, x9, x10, x11], st, zi, ps, zk⟩ = l) (hN : l.length ≤ 800000000000) :
    Calls Try.prog 23 #[.agg #[.int .i64 x0, .int .i64 x1, .int .i64 x2, .int .i64 x3, .int .i64 x4, .int .i64 x5, .int .i64 x6, .int .i64 x7, .int .i64 x8, .int .i64 x9, .int .i64 x10, .int .i64 x11, .bool st, .slice Ai ni ci, .slice Ap np cp, .slice Ak nk ck]] w fun e w' => (∃ A c, e = .returned (.slice A l.length c) ∧ Rw w.heap.size w' (.slice A l.length c) l) ∧ Below w.heap.size w w' := by
  have hl1 := Lib.hid hzi.1
  have hl2 := Lib.hid hps.1
  have hl3 := Lib.hid hzk.1
  have hsi := Lib.hid (CodeD.ints_low (T := TB) hzi)
  have hsk := Lib.hid (CodeD.ints_low (T := TB) hzk)
  obtain ⟨s1, hs1⟩ : ∃ s1, s1 = [83, 84, 88, 49] ++ [x0, x1, x2, x3, x4, x5, x6, x7, x8, x9, x10, x11].flatMap sB := ⟨_, rfl⟩
  obtain ⟨s2, hs2⟩ : ∃ s2, s2 = s1 ++ [boolB st] := ⟨_, rfl⟩
  obtain ⟨s3, hs3⟩ : ∃ s3, s3 = s2 ++ uB ni := ⟨_, rfl⟩
  obtain ⟨s4, hs4⟩ : ∃ s4, s4 = s3 ++ zi.flatMap uB := ⟨_, rfl⟩
  obtain ⟨s5, hs5⟩ : ∃ s5, s5 = s4 ++ uB np := ⟨_, rfl⟩
  obtain ⟨s6, hs6⟩ : ∃ s6, s6 = s5 ++ ps.flatMap progB := ⟨_, rfl⟩
  obtain ⟨s7, hs7⟩ : ∃ s7, s7 = s6 ++ uB nk := ⟨_, rfl⟩
  have hs8 : s7 ++ zk.flatMap sB = l := by
    rw [← hl, hs7, hs6, hs5, hs4, hs3, hs2, hs1]
    unfold bytesOf headB listB
    simp only [hl1.out, hl2.out, hl3.out, List.append_assoc]
  have n8 : (s7 ++ zk.flatMap sB).length ≤ 800000000000 := by rw [hs8]; exact hN
  have n7 := app_le n8
  have n6 := app_le (hs7 ▸ n7)
  have n5 := app_le (hs6 ▸ n6)
  have n4 := app_le (hs5 ▸ n5)
  have n3 := app_le (hs4 ▸ n4)
  have n2 := app_le (hs3 ▸ n3)
  have n1 := app_le (hs2 ▸ n2)
  have S1 := Lib.hid hs1
  have S2 := Lib.hid hs2
  have S3 := Lib.hid hs3
  have S4 := Lib.hid hs4
  have S5 := Lib.hid hs5
  have S6 := Lib.hid hs6
  have S7 := Lib.hid hs7
  have S8 := Lib.hid hs8
  have N8 := Lib.hid n8
  have N7 := Lib.hid n7
  have N6 := Lib.hid n6
  have N5 := Lib.hid n5
  have N4 := Lib.hid n4
  have N3 := Lib.hid n3
  have N2 := Lib.hid n2
  have N1 := Lib.hid n1
  clear hl hs8 hs7 hs6 hs5 hs4 hs3 hs2 hs1 n1 n2 n3 n4 n5 n6 n7 n8 hN
  obtain ⟨w2, hw2⟩ : ∃ w2, w2 = (w.alloc (.cells #[.int .i64 x0, .int .i64 x1, .int .i64 x2, .int .i64 x3, .int .i64 x4, .int .i64 x5, .int .i64 x6, .int .i64 x7, .int .i64 x8, .int .i64 x9, .int .i64 x10, .int .i64 x11, .bool st, .slice Ai ni ci, .slice Ap np cp, .slice Ak nk ck] 29)).alloc (.cells #[.int .i64 x0, .int .i64 x1, .int .i64 x2, .int .i64 x3, .int .i64 x4, .int .i64 x5, .int .i64 x6, .int .i64 x7, .int .i64 x8, .int .i64 x9, .int .i64 x10, .int .i64 x11, .bool st] 24) := ⟨_, rfl⟩
  have hz2 : w2.heap.size = w.heap.size + 2 := by rw [hw2, size_new, size_new]
  have kc := Lib.run_convert_bytes_const (P := Try.prog) w2 31 5 #[.int .u8 83, .int .u8 84, .int .u8 88, .int .u8 49] 4 4 Try.underlying31 Try.underlying5
  rw [hz2] at kc
  obtain ⟨w4, hw4⟩ : ∃ w4, w4 = (w2.alloc (.cells #[.int .u8 83, .int .u8 84, .int .u8 88, .int .u8 49] 5 (4, 5))).alloc (.cells #[.int .i64 x0, .int .i64 x1, .int .i64 x2, .int .i64 x3, .int .i64 x4, .int .i64 x5, .int .i64 x6, .int .i64 x7, .int .i64 x8, .int .i64 x9, .int .i64 x10, .int .i64 x11] 3) := ⟨_, rfl⟩
  have hb2 : Below w.heap.size w w2 := hw2 ▸ below_new2 w _ _
  have hb4 : Below w.heap.size w w4 := hw4 ▸ (hb2.alloc (by omega) _).alloc (by rw [size_new]; omega) _
  have m29 : Mem w4 w.heap.size 29 #[.int .i64 x0, .int .i64 x1, .int .i64 x2, .int .i64 x3, .int .i64 x4, .int .i64 x5, .int .i64 x6, .int .i64 x7, .int .i64 x8, .int .i64 x9, .int .i64 x10, .int .i64 x11, .bool st, .slice Ai ni ci, .slice Ap np cp, .slice Ak nk ck] := hw4 ▸ Mem.alloc (Mem.alloc (hw2 ▸ Mem.alloc (Mem.new w _ _) _) _) _
  have m24 : Mem w4 (w.heap.size + 1) 24 #[.int .i64 x0, .int .i64 x1, .int .i64 x2, .int .i64 x3, .int .i64 x4, .int .i64 x5, .int .i64 x6, .int .i64 x7, .int .i64 x8, .int .i64 x9, .int .i64 x10, .int .i64 x11, .bool st] := hw4 ▸ Mem.alloc (Mem.alloc (hw2 ▸ mem_new1 w _ _ _) _) _
  have mI : Mem w4 (w.heap.size + 3) 3 #[.int .i64 x0, .int .i64 x1, .int .i64 x2, .int .i64 x3, .int .i64 x4, .int .i64 x5, .int .i64 x6, .int .i64 x7, .int .i64 x8, .int .i64 x9, .int .i64 x10, .int .i64 x11] := by
    have := mem_new1 w2 (.cells #[.int .u8 83, .int .u8 84, .int .u8 88, .int .u8 49] 5 (4, 5)) 3 #[.int .i64 x0, .int .i64 x1, .int .i64 x2, .int .i64 x3, .int .i64 x4, .int .i64 x5, .int .i64 x6, .int .i64 x7, .int .i64 x8, .int .i64 x9, .int .i64 x10, .int .i64 x11]
    rw [hz2] at this
    exact hw4 ▸ this
  have iI : Ints .i64 w4 (some ⟨w.heap.size + 3, 0, none⟩) 12 [x0, x1, x2, x3, x4, x5, x6, x7, x8, x9, x10, x11] := by
    have := ints_lit .i64 (w2.alloc (.cells #[.int .u8 83, .int .u8 84, .int .u8 88, .int .u8 49] 5 (4, 5))) 3 [x0, x1, x2, x3, x4, x5, x6, x7, x8, x9, x10, x11] 12 rfl (fun x hx => wf_of_i64 (hi x hx))
    rw [size_new, hz2] at this
    exact hw4 ▸ this
  have rw4 : RB w.heap.size w4 ([83, 84, 88, 49] ++ (([x0, x1, x2, x3, x4, x5, x6, x7, x8, x9, x10, x11].take 0).flatMap sB)) (.slice (some ⟨w.heap.size + 2, 0, none⟩) 4 4) w4 := by
    refine ⟨.inr ⟨by simp, w.heap.size + 2, #[.int .u8 83, .int .u8 84, .int .u8 88, .int .u8 49], (4, 5), rfl, by omega, ?_, by simp [bC], by simp [maxLen]⟩, Fr.refl _ _ _, by have := hb4.size; omega⟩
    rw [hw4, BlkW.heap_alloc_old _ _ _ (by rw [size_new]; omega), ← hz2]
    exact BlkW.heap_alloc_new w2 _
  have i4 := Lib.hid (Ints.fr hzi hsi.out (Fr.of_below hb4 (Nat.le_refl _)))
  have k4 := Lib.hid (Ints.fr hzk hsk.out (Fr.of_below hb4 (Nat.le_refl _)))
  have p4 := Lib.hid (PPRow.fr hps (Fr.of_below (T := TB) hb4 (Nat.le_refl _)))
  have si4 : Hid (0 < ni → Stay TB w.heap.size w4 Ai) := fun h0 => (hsi.out h0).fr (Fr.of_below hb4 (Nat.le_refl _))
  have sk4 : Hid (0 < nk → Stay TB w.heap.size w4 Ak) := fun h0 => (hsk.out h0).fr (Fr.of_below hb4 (Nat.le_refl _))
  have HB4 := Lib.hid hb4
  have M29 := Lib.hid m29
  have M24 := Lib.hid m24
  have II := Lib.hid iI
  have SI : Hid (0 < 12 → Stay TB w.heap.size w4 (some ⟨w.heap.size + 3, 0, none⟩)) := fun _ => Stay.mem mI (by unfold TB; decide)
  have RW4 := Lib.hid rw4
  have HW4 := Lib.hid hw4
  rw [hw2] at kc hw4
  have HW := Lib.hid hw4
  have hs0 : IntKind.i64.signed = true := rfl
  have HI := Lib.hid hi
  unfold maxLen at li lp lk
  clear hb2 hb4 m29 m24 mI iI rw4 hw4 hz2 hw2 HW4 hzi hps hzk hi
  clear w2
  go_enter Try.func23, Try.ntmps23
  go_upto_region 4 with (fail)
  rw [← HW.out]
  clear HW kc
  go_wp2
  go_loopw [4, 6] (fun v i wr => LB w.heap.size w4 [83, 84, 88, 49] sB [x0, x1, x2, x3, x4, x5, x6, x7, x8, x9, x10, x11] 12 v i wr) (fun _ i _ => 12 - (intOf i).toNat)
  case atStart => exact ⟨0, by omega, rfl, RW4.out⟩
  case round =>
    obtain ⟨k, hk, rfl, hrb⟩ := hrel
    by_cases hlt : k < 12
    · obtain ⟨b, off, x, e0, hb, hc, hzk', hxw⟩ := Ints.at (Ints.fr II.out SI.out hrb.2.1) hlt
      injection e0 with e0
      injection e0 with e1 e2
      subst e1 e2
      rw [Nat.zero_add] at hc
      have hc' : wr.cell? ⟨w.heap.size + 1 + 1 + 1, k, none⟩ = some (.int .i64 x) := hc
      have hin := wf_i64 hxw
      have hnl : ([83, 84, 88, 49] ++ (([x0, x1, x2, x3, x4, x5, x6, x7, x8, x9, x10, x11] : List Int).take k).flatMap sB).length ≤ 800000000000 := Nat.le_trans (fm_le sB _ _ k) (by rw [← S1.out]; exact N1.out)
      have HK := Lib.hid (take_flat sB [x0, x1, x2, x3, x4, x5, x6, x7, x8, x9, x10, x11] k hzk')
      have HR := Lib.hid hrb
      clear hzk'
      go_wp2_with fail
      refine (r_signed w.heap.size _ _ x _ HR.out.1 HR.out.2.2 hin (by omega) _ rfl).mono ?_
      rintro e w5 hb5
      obtain ⟨A5, n5, c5, rfl, h5⟩ := RB.of HR.out hb5
      have H5 := Lib.hid h5
      clear hb5 h5 hrb
      go_wp2
      go_roundw
      case rel =>
        refine ⟨k + 1, by omega, by go_num, ?_⟩
        rw [HK.out, ← List.append_assoc]
        exact H5.out
      case measure => simp [intOf]; omega
    · have hr1 := RB.last hrb (by simp; omega)
      rw [← S1.out] at hr1
      obtain ⟨A1, n1, c1, rfl⟩ := RB.slice hr1
      have R1 := Lib.hid hr1
      have m24' := Mem.fr M24.out hr1.2.1 (by unfold TB; decide)
      have d12 : wr.cell? ⟨w.heap.size + 1, 12, none⟩ = some (.bool st) := m24'.cell 12
      clear hr1 hrb m24'
      go_upto_if 58 with (fail)
      go_cut [4] (fun v wc => CB w.heap.size w4 s2 v wc)
      case first =>
        cases st with
        | true =>
          obtain ⟨A, n, c, A', n', c', w5, e0, hrun, hrw2, hfr2, hB2⟩ := push1 R1.out.1 R1.out.2.2 (by have := N1.out; omega) 1
          injection e0 with e1 e2 e3
          subst e1 e2 e3
          have HR := Lib.hid hrun
          have HX := Lib.hid (show RB w.heap.size w4 s2 (.slice A' n' c') w5 from ⟨S2.out ▸ hrw2, R1.out.2.1.trans hfr2, hB2⟩)
          clear hrun hrw2 hfr2
          go_wp2_with (at_builtin; refine wpList_append_run rfl _ _ _ rfl HR.out (by rfl) (by rfl) ?_)
          all_goals go_meet
          exact HX.out
        | false =>
          obtain ⟨A, n, c, A', n', c', w5, e0, hrun, hrw2, hfr2, hB2⟩ := push1 R1.out.1 R1.out.2.2 (by have := N1.out; omega) 0
          injection e0 with e1 e2 e3
          subst e1 e2 e3
          have HR := Lib.hid hrun
          have HX := Lib.hid (show RB w.heap.size w4 s2 (.slice A' n' c') w5 from ⟨S2.out ▸ hrw2, R1.out.2.1.trans hfr2, hB2⟩)
          clear hrun hrw2 hfr2
          go_wp2_with (at_builtin; refine wpList_append_run rfl _ _ _ rfl HR.out (by rfl) (by rfl) ?_)
          all_goals go_meet
          exact HX.out
      case rest =>
        have hcut' : RB w.heap.size w4 s2 _ _ := hcut
        clear hcut
        obtain ⟨A2, n2, c2, rfl⟩ := RB.slice hcut'
        have q29 := Mem.fr M29.out hcut'.2.1 (by unfold TB; decide)
        have f13 := CodeD.flag_ q29 13 _ rfl
        have HR2 := Lib.hid hcut'
        clear q29 hcut'
        go_wp2_with fail
        refine (r_unsigned w.heap.size _ _ ni _ HR2.out.1 HR2.out.2.2 ⟨by omega, by omega⟩ (by have := N2.out; omega) s3 S3.out.symm).mono ?_
        rintro e w6 hb6
        obtain ⟨A6, n6, c6, rfl, h6⟩ := RB.of HR2.out hb6
        have START := Lib.hid h6
        clear hb6 h6
        go_wp2
        go_loopw [4, 7] (fun v i wr => LB w.heap.size w4 s3 uB zi ni v i wr) (fun _ i _ => ni - (intOf i).toNat)
        case atStart => exact ⟨0, Nat.zero_le _, rfl, by simpa using START.out⟩
        case round =>
          obtain ⟨k, hk, rfl, hrb⟩ := hrel
          have q29 := Mem.fr M29.out hrb.2.1 (by unfold TB; decide)
          have f13 := CodeD.flag_ q29 13 _ rfl
          clear q29
          by_cases hlt : k < ni
          · obtain ⟨b, off, x, rfl, hb, hc, hzk', hxw⟩ := Ints.at (Ints.fr i4.out si4.out hrb.2.1) hlt
            have hin := wf_u64 hxw
            have hnl : (s3 ++ (zi.take k).flatMap uB).length ≤ 800000000000 := Nat.le_trans (fm_le uB _ _ k) (by rw [← S4.out]; exact N4.out)
            have HK := Lib.hid (take_flat uB zi k hzk')
            have HR := Lib.hid hrb
            clear hzk' hrb
            go_wp2_with fail
            refine (r_unsigned w.heap.size _ _ x _ HR.out.1 HR.out.2.2 hin (by omega) _ rfl).mono ?_
            rintro e w5 hb5
            obtain ⟨A5, n5, c5, rfl, h5⟩ := RB.of HR.out hb5
            have H5 := Lib.hid h5
            clear hb5 h5
            go_wp2
            go_roundw
            case rel =>
              refine ⟨k + 1, by omega, by go_num, ?_⟩
              rw [HK.out, ← List.append_assoc]
              exact H5.out
            case measure => simp [intOf]; omega
          · have hr4 := RB.last hrb (by rw [hl1.out]; omega)
            rw [← S4.out] at hr4
            clear hrb
            obtain ⟨A2, n2, c2, rfl⟩ := RB.slice hr4
            have q29 := Mem.fr M29.out hr4.2.1 (by unfold TB; decide)
            have f14 := CodeD.flag_ q29 14 _ rfl
            have HR2 := Lib.hid hr4
            clear q29 hr4
            go_wp2_with fail
            refine (r_unsigned w.heap.size _ _ np _ HR2.out.1 HR2.out.2.2 ⟨by omega, by omega⟩ (by have := N4.out; omega) s5 S5.out.symm).mono ?_
            rintro e w6 hb6
            obtain ⟨A6, n6, c6, rfl, h6⟩ := RB.of HR2.out hb6
            have START := Lib.hid h6
            clear hb6 h6
            go_wp2
            go_loopw [4, 8] (fun v i wr => LB w.heap.size w4 s5 progB ps np v i wr) (fun _ i _ => np - (intOf i).toNat)
            case atStart => exact ⟨0, Nat.zero_le _, rfl, by simpa using START.out⟩
            case round =>
              obtain ⟨k, hk, rfl, hrb⟩ := hrel
              have q29 := Mem.fr M29.out hrb.2.1 (by unfold TB; decide)
              have f14 := CodeD.flag_ q29 14 _ rfl
              clear q29
              by_cases hlt : k < np
              · obtain ⟨b, off, Ai', n', c', p, rfl, hb, hpk, hc, hl5, hl6, hp, hst⟩ := PPRow.at (PPRow.fr p4.out hrb.2.1) hlt
                unfold maxLen at hl6
                have hnl : (s5 ++ (ps.take k).flatMap progB).length ≤ 800000000000 := Nat.le_trans (fm_le progB _ _ k) (by rw [← S6.out]; exact N6.out)
                have hnl2 : (s5 ++ (ps.take (k + 1)).flatMap progB).length ≤ 800000000000 := Nat.le_trans (fm_le progB _ _ (k + 1)) (by rw [← S6.out]; exact N6.out)
                have HK := Lib.hid (take_flat progB ps k hpk)
                obtain ⟨sk, hsk⟩ : ∃ sk, sk = s5 ++ (ps.take k).flatMap progB := ⟨_, rfl⟩
                rw [← hsk] at hnl hrb
                rw [HK.out, ← List.append_assoc, ← hsk] at hnl2
                have HSK := Lib.hid hsk
                have hpl := hp.1
                have hnl3 : (sk ++ uB n' ++ p.flatMap insB).length ≤ 800000000000 := by
                  unfold progB listB at hnl2
                  rw [hpl, ← List.append_assoc] at hnl2
                  exact hnl2
                have HN3 := Lib.hid hnl3
                have HPL := Lib.hid hpl
                have HPR := Lib.hid hp
                have HPS : Hid (0 < n' → Stay TB w.heap.size wr Ai') := fun h0 => Stay.low (hst h0)
                have HC := Lib.hid hc
                have HR := Lib.hid hrb
                clear hpk hsk hnl2 hnl3 hpl hp hst
                go_wp2_with fail
                refine (r_unsigned w.heap.size _ sk n' _ HR.out.1 HR.out.2.2 ⟨by omega, by omega⟩ (by omega) _ rfl).mono ?_
                rintro e w5 hb5
                obtain ⟨A5, n5, c5, rfl, h5⟩ := RB.of HR.out hb5
                have F5 := Lib.hid hb5.2.1
                have H5 := Lib.hid h5
                clear hb5 h5 hrb f14
                go_wp2
                go_loopw [4, 9] (fun v i wr => LB w.heap.size w4 (sk ++ uB n') insB p n' v i wr ∧ Fr TB w.heap.size w5 wr) (fun _ i _ => n' - (intOf i).toNat)
                case atStart => exact ⟨⟨0, Nat.zero_le _, rfl, by simpa using H5.out⟩, Fr.refl _ _ _⟩
                case round =>
                  obtain ⟨⟨j, hj, rfl, hrj⟩, hfj⟩ := hrel
                  have q29 := Mem.fr M29.out hrj.2.1 (by unfold TB; decide)
                  have f14 := CodeD.flag_ q29 14 _ rfl
                  have hbB := PPRow.base p4.out (by omega)
                  have hc2 : wr.cell? ⟨b, off + k, none⟩ = some (.slice Ai' n' c') := ((F5.out.trans hfj).below.cell (p := ⟨b, off + k, none⟩) hbB).trans HC.out
                  by_cases hj2 : j < n'
                  · obtain ⟨b2, off2, y0, y1, y2, y3, y4, rfl, hb2, hpj, ⟨o0, o1, o2, o3, o4⟩, d0, d1, d2, d3, d4⟩ := PRow.at (PRow.fr HPR.out HPS.out (F5.out.trans hfj)) hj2
                    have hnj : (sk ++ uB n' ++ (p.take (j + 1)).flatMap insB).length ≤ 800000000000 := Nat.le_trans (fm_le insB _ _ (j + 1)) HN3.out
                    have HKJ := Lib.hid (take_flat insB p j hpj)
                    obtain ⟨sj, hsj⟩ : ∃ sj, sj = sk ++ uB n' ++ (p.take j).flatMap insB := ⟨_, rfl⟩
                    have e5 : insB [y0, y1, y2, y3, y4] = sB y0 ++ sB y1 ++ sB y2 ++ sB y3 ++ sB y4 := by unfold insB; simp
                    rw [HKJ.out, ← List.append_assoc, ← hsj, e5] at hnj
                    simp only [← List.append_assoc] at hnj
                    have m4 : (sj ++ sB y0 ++ sB y1 ++ sB y2 ++ sB y3).length ≤ 900000000000 := by have := app_le hnj; omega
                    have m3 := app_le m4
                    have m2 := app_le m3
                    have m1 := app_le m2
                    have m0 := app_le m1
                    rw [← hsj] at hrj
                    have hsz := hrj.2.2
                    have HE5 := Lib.hid e5
                    have HSJ := Lib.hid hsj
                    have hRd : RB w.heap.size w4 sj u4 ((wr.alloc (.cells #[.int .i64 y0, .int .i64 y1, .int .i64 y2, .int .i64 y3, .int .i64 y4] 75)).drew) := ⟨hrj.1.old (((Old.refl wr).alloc (.cells #[.int .i64 y0, .int .i64 y1, .int .i64 y2, .int .i64 y3, .int .i64 y4] 75)).drew), (hrj.2.1.alloc hsz (.cells #[.int .i64 y0, .int .i64 y1, .int .i64 y2, .int .i64 y3, .int .i64 y4] 75)).drew, by have := size_new wr (.cells #[.int .i64 y0, .int .i64 y1, .int .i64 y2, .int .i64 y3, .int .i64 y4] 75); show _ ≤ (wr.alloc (.cells #[.int .i64 y0, .int .i64 y1, .int .i64 y2, .int .i64 y3, .int .i64 y4] 75)).heap.size; omega⟩
                    have hH5 : HI5 wr.heap.size y0 y1 y2 y3 y4 (wr.alloc (.cells #[.int .i64 y0, .int .i64 y1, .int .i64 y2, .int .i64 y3, .int .i64 y4] 75)) := Mem.new wr _ _
                    have hF5 := Lib.hid ((hfj.alloc hsz (.cells #[.int .i64 y0, .int .i64 y1, .int .i64 y2, .int .i64 y3, .int .i64 y4] 75)).drew)
                    clear hpj hnj q29 e5 hsj hrj hfj
                    go_wp2_with fail
                    go_region_held3 (HeldI wr.heap.size y0 y1 y2 y3 y4) (first | exact heldI_drew hH5 | exact heldI_keep (by assumption) (by assumption)) (first
                      | (go_at_call 33; (with_reducible refine (r_step (x := y0) (by assumption) o0 m0).mono ?_); rintro e w10 ⟨B0, k0, d0, rfl, hR0, hf0, hB0⟩)
                      | (go_at_call 33; (with_reducible refine (r_step (x := y1) (by assumption) o1 m1).mono ?_); rintro e w11 ⟨B1, k1, d1, rfl, hR1, hf1, hB1⟩)
                      | (go_at_call 33; (with_reducible refine (r_step (x := y2) (by assumption) o2 m2).mono ?_); rintro e w12 ⟨B2, k2, d2, rfl, hR2, hf2, hB2⟩)
                      | (go_at_call 33; (with_reducible refine (r_step (x := y3) (by assumption) o3 m3).mono ?_); rintro e w13 ⟨B3, k3, d3, rfl, hR3, hf3, hB3⟩)
                      | (go_at_call 33; (with_reducible refine (r_step (x := y4) (by assumption) o4 m4).mono ?_); rintro e w14 ⟨B4, k4, d4, rfl, hR4, hf4, hB4⟩))
                    all_goals
                      have hF6 := Lib.hid ((((((hF5.out.trans hf0).trans hf1).trans hf2).trans hf3).trans hf4))
                      have HRR := Lib.hid hR4
                      clear hR0 hR1 hR2 hR3 hR4 hf0 hf1 hf2 hf3 hf4
                      go_wp2
                      go_roundw
                      case rel =>
                        refine ⟨⟨j + 1, by omega, by go_num, ?_⟩, hF6.out⟩
                        rw [HKJ.out, HE5.out, ← List.append_assoc, ← HSJ.out]
                        simp only [← List.append_assoc]
                        exact HRR.out
                      case measure => simp [intOf]; omega
                  · have hrk := RB.last hrj (by rw [HPL.out]; omega)
                    have HRK := Lib.hid (show RB w.heap.size w4 (s5 ++ (ps.take (k + 1)).flatMap progB) u4 wr by
                      rw [HK.out, ← List.append_assoc, ← HSK.out]
                      unfold progB listB
                      rw [HPL.out, ← List.append_assoc]
                      exact hrk)
                    clear hrk hrj q29
                    go_wp2
                    go_roundw
                    case rel => exact ⟨k + 1, by omega, by go_num, HRK.out⟩
                    case measure => simp [intOf]; omega
              · have hr6 := RB.last hrb (by rw [hl2.out]; omega)
                rw [← S6.out] at hr6
                clear hrb
                obtain ⟨A2, n2, c2, rfl⟩ := RB.slice hr6
                have q29 := Mem.fr M29.out hr6.2.1 (by unfold TB; decide)
                have f15 := CodeD.flag_ q29 15 _ rfl
                have HR2 := Lib.hid hr6
                clear q29 hr6
                go_wp2_with fail
                refine (r_unsigned w.heap.size _ _ nk _ HR2.out.1 HR2.out.2.2 ⟨by omega, by omega⟩ (by have := N6.out; omega) s7 S7.out.symm).mono ?_
                rintro e w6 hb6
                obtain ⟨A6, n6, c6, rfl, h6⟩ := RB.of HR2.out hb6
                have START := Lib.hid h6
                clear hb6 h6
                go_wp2
                go_loopw [4, 11] (fun v i wr => LB w.heap.size w4 s7 sB zk nk v i wr) (fun _ i _ => nk - (intOf i).toNat)
                case atStart => exact ⟨0, Nat.zero_le _, rfl, by simpa using START.out⟩
                case round =>
                  obtain ⟨k, hk, rfl, hrb⟩ := hrel
                  have q29 := Mem.fr M29.out hrb.2.1 (by unfold TB; decide)
                  have f15 := CodeD.flag_ q29 15 _ rfl
                  clear q29
                  by_cases hlt : k < nk
                  · obtain ⟨b, off, x, rfl, hb, hc, hzk', hxw⟩ := Ints.at (Ints.fr k4.out sk4.out hrb.2.1) hlt
                    have hin := wf_i64 hxw
                    have hnl : (s7 ++ (zk.take k).flatMap sB).length ≤ 800000000000 := Nat.le_trans (fm_le sB _ _ k) (by exact N8.out)
                    have HK := Lib.hid (take_flat sB zk k hzk')
                    have HR := Lib.hid hrb
                    clear hzk' hrb
                    go_wp2_with fail
                    refine (r_signed w.heap.size _ _ x _ HR.out.1 HR.out.2.2 hin (by omega) _ rfl).mono ?_
                    rintro e w5 hb5
                    obtain ⟨A5, n5, c5, rfl, h5⟩ := RB.of HR.out hb5
                    have H5 := Lib.hid h5
                    clear hb5 h5
                    go_wp2
                    go_roundw
                    case rel =>
                      refine ⟨k + 1, by omega, by go_num, ?_⟩
                      rw [HK.out, ← List.append_assoc]
                      exact H5.out
                    case measure => simp [intOf]; omega
                  · have hr8 := RB.last hrb (by rw [hl3.out]; omega)
                    rw [S8.out] at hr8
                    obtain ⟨A8, c8, e8, _⟩ := hr8.1.slice
                    subst e8
                    have HR8 := Lib.hid hr8
                    have HBB := Lib.hid (HB4.out.trans hr8.2.1.below)
                    clear hr8 hrb
                    go_wp2
                    go_ret
                    exact ⟨⟨A8, c8, rfl, HR8.out.1⟩, HBB.out⟩
end Go.Proofs.Ytafidppjabdecaa.CodeY
