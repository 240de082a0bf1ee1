/-
  Proved: the values that Image returns are copies, New keeps a copy of the initial words, and the methods of nil cells return ErrArg. No condition.
-/
import Derived.Test.YtbedgdpcopghfaaRows
import Derived.WalkKit
import Derived.ProofKit
import Derived.OpenShut
import Derived.Test.YtbedgdpcopghfaaFrame
import Derived.Test.YtbedgdpcopghfaaLayO
import Derived.Test.YtbedgdpcopghfaaLayP
import Derived.Test.YtbedgdpcopghfaaCelA
import Derived.Test.YtbedgdpcopghfaaCelX
import Derived.Test.YtbedgdpcopghfaaCelY
import Derived.Deep.Cut
import Derived.Deep.RegionHeld3
namespace Go.Proofs.Ytbedgdpcopghfaa.cellsCopies
open Go.ChangeShapes Go.WideShapes Go.ChangeAt Go.RowKit
open LawFrame
open Go.ChangeMaps (open_string)
set_option linter.unusedVariables false

theorem own : ownKnob Try.prog.godebug = none := by kernel_rfl
theorem laidOut : laidOutB Try.prog = true := by kernel_rfl

open PlainT BlkW LayS LayA LayD LayF LayH LayK LayO LayP CelS CelM CelP CelV CelL CelN CelO CelI CelX CelY
set_option maxHeartbeats 4000000
set_option maxRecDepth 100000
theorem blocks_below (q : Cfg) (w : World) : Calls Try.prog 36 #[cfgV q] w fun e w' => e = .returned (.int .i64 (blkV q)) ∧ Below w.heap.size w w' := r_blocks q w
theorem img0 (d o l h n : Value) (c t s : Int) (w : World) : (Instr.field 50 (imgV d o c t s l h n) 0).run Try.prog w = .ok d w := by kernel_rfl
/-- What region 8 holds. -/
def HI8 (w0 : World) (cb : Nat) (q : Cfg) (ib : Nat) (cs : Array Value) (w : World) : Prop := HQ w0 cb q w ∧ Mem w ib 50 cs
abbrev S8 (w0 : World) (cb : Nat) (q : Cfg) (ib : Nat) (vd vo vl vh vn : Value) (w : World) : Prop :=
  w.cell? ⟨ib, 0, none⟩ = some vd ∧ w.cell? ⟨ib, 5, none⟩ = some vl ∧
  w.cell? ⟨cb, 0, none⟩ = some (.int .i64 q.w) ∧ w.cell? ⟨cb, 1, none⟩ = some (.int .i64 q.o) ∧ w.cell? ⟨cb, 2, none⟩ = some (.int .i64 q.b) ∧ w.cell? ⟨cb, 3, none⟩ = some (.int .i64 q.c0) ∧ w.cell? ⟨cb, 4, none⟩ = some (.int .i64 q.c1) ∧ w.cell? ⟨cb, 5, none⟩ = some (.int .i64 q.c2) ∧ w.cell? ⟨cb, 6, none⟩ = some (.int .i64 q.c3) ∧
  w.cell? ⟨cb, 7, none⟩ = some (.int .i64 q.r) ∧ w.cell? ⟨cb, 8, none⟩ = some (.int .i64 q.t) ∧ w.cell? ⟨cb, 9, none⟩ = some (.int .i64 q.a) ∧ w.cell? ⟨cb, 10, none⟩ = some (.int .i64 q.f) ∧ w.cell? ⟨cb, 11, none⟩ = some (.int .i64 q.k) ∧ w.cell? ⟨cb, 12, none⟩ = some (.bool q.s) ∧ HI8 w0 cb q ib #[vd, vo, .int .u64 0, .int .u64 0, .int .u64 0, vl, vh, vn] w
theorem s8_of {w0 : World} {cb : Nat} {q : Cfg} {ib : Nat} {vd vo vl vh vn : Value} {w : World} (h : HI8 w0 cb q ib #[vd, vo, .int .u64 0, .int .u64 0, .int .u64 0, vl, vh, vn] w) : S8 w0 cb q ib vd vo vl vh vn w := by
  obtain ⟨d0, d1, d2, d3, d4, d5, d6, d7, d8, d9, d10, d11, d12⟩ := box_cells h.1.1
  exact ⟨h.2.cell 0, h.2.cell 5, d0, d1, d2, d3, d4, d5, d6, d7, d8, d9, d10, d11, d12, h⟩
theorem s8_hi {w0 : World} {cb : Nat} {q : Cfg} {ib : Nat} {vd vo vl vh vn : Value} {w : World} (h : S8 w0 cb q ib vd vo vl vh vn w) : HI8 w0 cb q ib #[vd, vo, .int .u64 0, .int .u64 0, .int .u64 0, vl, vh, vn] w := h.2.2.2.2.2.2.2.2.2.2.2.2.2.2.2
theorem s8_drew {w0 : World} {cb : Nat} {q : Cfg} {ib : Nat} {vd vo vl vh vn : Value} {w : World} (h : HI8 w0 cb q ib #[vd, vo, .int .u64 0, .int .u64 0, .int .u64 0, vl, vh, vn] w) : S8 w0 cb q ib vd vo vl vh vn w.drew := s8_of ⟨⟨h.1.1.drewN 1, below_drewN h.1.2 1⟩, h.2.drewN 1⟩
theorem s8_keep {w0 : World} {cb : Nat} {q : Cfg} {ib : Nat} {vd vo vl vh vn : Value} {w w' : World} (h : S8 w0 cb q ib vd vo vl vh vn w) (hb : Below w.heap.size w w') : S8 w0 cb q ib vd vo vl vh vn w' :=
  s8_of ⟨⟨(s8_hi h).1.1.below hb (s8_hi h).1.1.lt, below_trans2 (s8_hi h).1.2 hb⟩, (s8_hi h).2.below hb (s8_hi h).2.lt⟩

theorem readable : ∀ t ∈ Try.f11.params.toList, Try.prog.readableRec t = true ∧ t < Try.prog.types.size := by
  have h : (Try.f11.params.toList.all fun t => Try.prog.readableRec t && decide (t < Try.prog.types.size)) = true := by kernel_rfl
  intro t ht
  have := List.all_eq_true.1 h t ht
  simpa using this

/-! The walk. -/
theorem walk (w : World) (x0_0 x0_1 x0_2 x0_3 x0_4 : Int) (wx0_0 : LayS.InI x0_0) (wx0_1 : LayS.InI x0_1) (wx0_2 : LayS.InI x0_2) (wx0_3 : LayS.InI x0_3) (wx0_4 : LayS.InI x0_4) (a1 : Int) (w1 : (Lit.int .u64 a1).wf = true) :
    Calls Try.prog 11 #[.agg #[.int .i64 x0_0, .int .i64 x0_1, .int .i64 x0_2, .int .i64 x0_3, .int .i64 x0_4], .int .u64 a1] w fun e w' => e = .returned (.bool true) ∧ Kept w w' := by
  show Calls _ _ #[.agg _, _] _ _
  clear wx0_0 wx0_1 wx0_2 wx0_3 wx0_4
  have HB0 := Lib.hid (below_new w (.cells #[.int .i64 x0_0, .int .i64 x0_1, .int .i64 x0_2, .int .i64 x0_3, .int .i64 x0_4] 28))
  go_enter Try.func11, Try.ntmps11
  go_upto_region 2 with (go_at_call 15; refine (l_config _ _ _ _ _ _).mono ?_; rintro e w1' ⟨q, rfl, hmade, hb1⟩)
  have HB1 := Lib.hid (below_trans2 HB0.out hb1)
  have HV := Lib.hid (made_valid hmade)
  have q4 : 4 ≤ q.w := hmade.1
  have q12 : q.w ≤ 12 := hmade.2.1
  obtain ⟨m, hm⟩ : ∃ m : Nat, q.w = m := ⟨q.w.toNat, by omega⟩
  have HMQ := Lib.hid hm
  obtain ⟨n, hn⟩ : ∃ n : Nat, blkV q = n := ⟨(blkV q).toNat, by have := blk_in q; omega⟩
  have HN := Lib.hid hn
  obtain ⟨no, hno⟩ : ∃ no : Nat, q.o = no := ⟨q.o.toNat, by have := hmade.2.2.1; omega⟩
  have HNO := Lib.hid hno
  clear hno
  have hmk : ∀ w, (Instr.makeSlice TR (.int .i64 q.w) (.int .i64 q.w)).run Try.prog w = .ok (.slice (some ⟨w.heap.size, 0, none⟩) m m) (w.alloc (.cells (U (List.replicate m 0)) TU)) := fun w => by
    have := make_row w m (by omega)
    rwa [← HMQ.out] at this
  have hm4 : 4 ≤ m := by omega
  have hm12 : m ≤ 12 := by omega
  have hn64 : n ≤ 64 := by have := (blk_in q).2; omega
  have HC := Lib.hid ((Mem.new w1' TC (cells q)).alloc (.cells (U (List.replicate m 0)) TU))
  have HR := Lib.hid (mem_new1 w1' (.cells (cells q) TC) TU (U (List.replicate m 0)))
  have HB2 := Lib.hid (HB1.out.trans ((below_new2 w1' (.cells (cells q) TC) (.cells (U (List.replicate m 0)) TU)).mono HB1.out.size))
  have hc0 := (Mem.new w1' TC (cells q)).cell 0
  have hsz1 := size_new w1' (.cells (cells q) TC)
  clear hm hn hb1 hmade HB0
  go_upto_region 3 with (fail)
  obtain ⟨cb, hcb⟩ : ∃ cb, w1'.heap.size = cb := ⟨_, rfl⟩
  have hcl : w.heap.size ≤ cb := by rw [← hcb]; exact HB1.out.size
  obtain ⟨W, hW⟩ : ∃ W, (w1'.alloc (.cells (cells q) TC)).alloc (.cells (U (List.replicate m 0)) TU) = W := ⟨_, rfl⟩
  rw [hW, hcb] at HC HR
  rw [hW] at HB2
  have HRR : Hid (Row W (cb + 1) (List.replicate m 0)) := HR
  rw [hW, hcb]
  have hsrc : Src W (.slice (some ⟨cb + 1, 0, none⟩) m m) (List.replicate m 0) := by
    have := row_src HRR.out
    rwa [List.length_replicate] at this
  have hnew : Calls Try.prog 26 #[cfgV q, .int .i64 2, .slice (some ⟨cb + 1, 0, none⟩) m m] W fun e w' => ∃ b, e = .returned (.tuple #[.pointer (some ⟨b, 0, none⟩), .int .i64 0]) ∧ Is W.heap.size w'.heap.size w' b (A0 q n no 2 (List.replicate m 0)) ∧ Below W.heap.size W w' :=
    a_new q HV.out n no 2 HN.out HNO.out (by decide) (by decide) W _ _ hsrc (by rw [List.length_replicate]; exact HMQ.out.symm) (fun g hg => by
      simp [Value.ownBlock] at hg
      rw [← hg]
      exact HRR.out.lt)
  obtain ⟨d0, d1, d2, d3, d4, d5, d6, d7, d8, d9, d10, d11, d12⟩ := box_cells HC.out
  clear hsrc hmk hc0 hsz1 hW hcb
  go_upto_region 6 with (go_at_call 26; refine hnew.mono ?_; rintro e w4 ⟨b, rfl, hI, hB4⟩)
  obtain ⟨A, hA⟩ : ∃ A, A0 q n no 2 (List.replicate m 0) = A := ⟨_, rfl⟩
  have hA1 : A 1 = List.replicate m 0 ++ List.replicate n 0 := by rw [← hA]; rfl
  have hA3 : A 3 = [0] := by rw [← hA]; rfl
  have hA4 : A 4 = [0] := by rw [← hA]; rfl
  have hA5 : A 5 = [0] := by rw [← hA]; rfl
  have hA6 : A 6 = [0, 0] := by rw [← hA]; rfl
  rw [hA] at hI
  have L1 := HRR.out.lt
  have Hr4 := Lib.hid (HRR.out.below hB4 HRR.out.lt)
  have HC4 := Lib.hid (HC.out.below hB4 HC.out.lt)
  have HB4 := Lib.hid (HB2.out.trans (hB4.mono HB2.out.size))
  have HI4 := Lib.hid hI
  have HS4 : Hid (w.heap.size ≤ W.heap.size) := Lib.hid HB2.out.size
  have hrc : w4.cell? ⟨cb + 1, 0, none⟩ = some (.int .u64 0) := by
    have := Row.cell Hr4.out 0 (by rw [List.length_replicate]; omega)
    rw [this]
    cases m with
    | zero => omega
    | succ m => rfl
  have hrf : w4.frozen? ⟨cb + 1, 0, none⟩ = false := Hr4.out.frozen 0
  have h0m : (0 : Int) < m := by omega
  have HA1 := Lib.hid hA1
  have HA3 := Lib.hid hA3
  have HA4 := Lib.hid hA4
  have HA5 := Lib.hid hA5
  have HA6 := Lib.hid hA6
  clear hA hA1 hA3 hA4 hA5 hA6 hI hB4 hnew d0 d1 d2 d3 d4 d5 d6 d7 d8 d9 d10 d11 d12 HRR HR HC HB2
  go_upto_region 7 with (fail)
  obtain ⟨y1, hy1⟩ : ∃ y, IntKind.u64.wrap (a1 + 1) = y := ⟨_, rfl⟩
  first | rw [hy1] | skip
  have HC5 := Lib.hid (HC4.out.far (a := ⟨cb + 1, 0, none⟩) (by show cb ≠ cb + 1; omega) (.int .u64 y1))
  have st5 : Stay (cb + 1) (cb + 2) w4 (w4.setCell ⟨cb + 1, 0, none⟩ (.int .u64 y1)) := (Stay.refl (cb + 1) (cb + 2) w4).set_ ⟨cb + 1, 0, none⟩ (.inl ⟨Nat.le_refl _, Nat.lt_succ_self _⟩) _
  have HI5 := Lib.hid (HI4.out.stay st5 (.inr (by omega)))
  have HB5 := Lib.hid (HB4.out.setCell (p := ⟨cb + 1, 0, none⟩) (by show w.heap.size ≤ cb + 1; omega) (.int .u64 y1))
  obtain ⟨W5, hW5⟩ : ∃ W5, w4.setCell ⟨cb + 1, 0, none⟩ (.int .u64 y1) = W5 := ⟨_, rfl⟩
  rw [hW5] at HC5 HI5 HB5 ⊢
  clear hW5 st5 hrc hrf HI4 HB4 HC4 Hr4 hy1
  go_wp2_with fail
  refine (m_image _ _ W5 b A HI5.out 0 0 0 HA3.out HA4.out HA5.out).mono ?_
  rintro e w6 ⟨vd, vo, vl, vh, vn, rfl, ⟨o1, o2, o6, o7, o8⟩, hI6, hS6⟩
  obtain ⟨ao, co, rfl, _⟩ := own_slice o2
  obtain ⟨ah, ch, rfl, _⟩ := own_slice o7
  obtain ⟨an, cn, rfl, _⟩ := own_slice o8
  clear o2 o7 o8
  obtain ⟨lo2, hlo2⟩ : ∃ l, (A 2).length = l := ⟨_, rfl⟩
  obtain ⟨lh, hlh⟩ : ∃ l, (A 7).length = l := ⟨_, rfl⟩
  obtain ⟨ln, hln⟩ : ∃ l, (A 8).length = l := ⟨_, rfl⟩
  rw [hlo2, hlh, hln]
  clear hlo2 hlh hln
  have hL1 : (A 1).length = m + n := by rw [HA1.out, List.length_append, List.length_replicate, List.length_replicate]
  have hL6 : (A 6).length = 2 := by rw [HA6.out]; rfl
  obtain ⟨g1, cp1, cur1, hvd, hg1, hh1, hlt1, hcc1⟩ := own_cells o1 (by omega)
  obtain ⟨g6, cp6, cur6, hvl, hg6, hh6, hlt6, hcc6⟩ := own_cells o6 (by omega)
  have hx1 : w6.cell? ⟨g1, 0, none⟩ = some (.int .u64 0) := by
    rw [hcc1 0 (by omega), HA1.out]
    unfold us
    cases m with
    | zero => omega
    | succ m => rfl
  have hx6 : w6.cell? ⟨g6, 1, none⟩ = some (.int .u64 0) := by
    rw [hcc6 1 (by omega), HA6.out]
    rfl
  clear hcc1 hcc6
  rw [hL1] at hvd
  rw [hL6] at hvl
  subst hvd
  subst hvl
  go_upto_region 8 with (fail)
  have HM7 := Lib.hid (Mem.new w6 50 #[.slice (some ⟨g1, 0, none⟩) (m + n) cp1, .slice ao lo2 co, .int .u64 0, .int .u64 0, .int .u64 0, .slice (some ⟨g6, 0, none⟩) 2 cp6, .slice ah lh ch, .slice an ln cn])
  have hcb5 : cb < W.heap.size := by omega
  have HC6 := (hS6.block cb HC5.out.lt (.inl hcb5)).trans HC5.out
  have HC7 := Lib.hid (Mem.alloc HC6 (.cells #[.slice (some ⟨g1, 0, none⟩) (m + n) cp1, .slice ao lo2 co, .int .u64 0, .int .u64 0, .int .u64 0, .slice (some ⟨g6, 0, none⟩) 2 cp6, .slice ah lh ch, .slice an ln cn] 50))
  have HI7 := Lib.hid (hI6.below (below_new w6 (.cells #[.slice (some ⟨g1, 0, none⟩) (m + n) cp1, .slice ao lo2 co, .int .u64 0, .int .u64 0, .int .u64 0, .slice (some ⟨g6, 0, none⟩) 2 cp6, .slice ah lh ch, .slice an ln cn] 50)))
  have b6 := HB5.out.trans (hS6.below HS4.out HB5.out.size)
  have HB7 := Lib.hid (b6.alloc b6.size (.cells #[.slice (some ⟨g1, 0, none⟩) (m + n) cp1, .slice ao lo2 co, .int .u64 0, .int .u64 0, .int .u64 0, .slice (some ⟨g6, 0, none⟩) 2 cp6, .slice ah lh ch, .slice an ln cn] 50))
  have HO1 := Lib.hid ((BlkW.heap_alloc_old w6 (.cells #[.slice (some ⟨g1, 0, none⟩) (m + n) cp1, .slice ao lo2 co, .int .u64 0, .int .u64 0, .int .u64 0, .slice (some ⟨g6, 0, none⟩) 2 cp6, .slice ah lh ch, .slice an ln cn] 50) g1 hlt1).trans hh1)
  have HO6 := Lib.hid ((BlkW.heap_alloc_old w6 (.cells #[.slice (some ⟨g1, 0, none⟩) (m + n) cp1, .slice ao lo2 co, .int .u64 0, .int .u64 0, .int .u64 0, .slice (some ⟨g6, 0, none⟩) 2 cp6, .slice ah lh ch, .slice an ln cn] 50) g6 hlt6).trans hh6)
  have top5 := HI5.out.top
  obtain ⟨ib, hib⟩ : ∃ ib, w6.heap.size = ib := ⟨_, rfl⟩
  rw [hib] at HM7 ⊢
  obtain ⟨W7, hW7⟩ : ∃ W7, w6.alloc (.cells #[.slice (some ⟨g1, 0, none⟩) (m + n) cp1, .slice ao lo2 co, .int .u64 0, .int .u64 0, .int .u64 0, .slice (some ⟨g6, 0, none⟩) 2 cp6, .slice ah lh ch, .slice an ln cn] 50) = W7 := ⟨_, rfl⟩
  rw [hW7] at HM7 HC7 HI7 HB7 HO1 HO6 ⊢
  have HE1 : Hid (W7.heap[g1]? = w6.heap[g1]?) := Lib.hid (HO1.out.trans hh1.symm)
  have HE6 : Hid (W7.heap[g6]? = w6.heap[g6]?) := Lib.hid (HO6.out.trans hh6.symm)
  clear hib hW7 HC6 b6 hI6 hS6 hh1 hh6 o1 o6
  have hwn : IntKind.i64.wrap (q.w + n) = q.w + n := IntWalk.i64_in _ (by omega)
  have hne : ((m : Int) + n != q.w + n) = false := by rw [HMQ.out]; simp
  have hbl := blocks_below q
  rw [HN.out] at hbl
  have h8 : HI8 W7 cb q ib #[.slice (some ⟨g1, 0, none⟩) (m + n) cp1, .slice ao lo2 co, .int .u64 0, .int .u64 0, .int .u64 0, .slice (some ⟨g6, 0, none⟩) 2 cp6, .slice ah lh ch, .slice an ln cn] W7 := ⟨⟨HC7.out, Below.refl _ _⟩, HM7.out⟩
  have hs8 := s8_drew h8
  have HX1 := Lib.hid hx1
  have HX6 := Lib.hid hx6
  clear hx1 hx6
  go_region_held3 (S8 W7 cb q ib (.slice (some ⟨g1, 0, none⟩) (m + n) cp1) (.slice ao lo2 co) (.slice (some ⟨g6, 0, none⟩) 2 cp6) (.slice ah lh ch) (.slice an ln cn)) (first | exact hs8 | exact s8_keep (by assumption) (by assumption)) ((go_at_call 36; (with_reducible refine (hbl _).mono ?_); rintro e w8 ⟨rfl, hb8⟩))
  rename_i hH
  obtain ⟨⟨hcfg, hb78⟩, himg⟩ := s8_hi hH
  have i0 : w8.cell? ⟨ib, 0, none⟩ = some (.slice (some ⟨g1, 0, none⟩) (m + n) cp1) := himg.cell 0
  have i5 : w8.cell? ⟨ib, 5, none⟩ = some (.slice (some ⟨g6, 0, none⟩) 2 cp6) := himg.cell 5
  have e1 : w8.heap[g1]? = w6.heap[g1]? := (hb78.block g1 (lt_of_some HO1.out)).trans HE1.out
  have e6 : w8.heap[g6]? = w6.heap[g6]? := (hb78.block g6 (lt_of_some HO6.out)).trans HE6.out
  have c10 : w8.cell? ⟨g1, 0, none⟩ = some (.int .u64 0) := (World.cell?_of_block e1).trans HX1.out
  have c61 : w8.cell? ⟨g6, 1, none⟩ = some (.int .u64 0) := (World.cell?_of_block e6).trans HX6.out
  have f10 : w8.frozen? ⟨g1, 0, none⟩ = false := by
    have := (hb78.block g1 (lt_of_some HO1.out)).trans HO1.out
    simp [World.frozen?, this]
  have f61 : w8.frozen? ⟨g6, 1, none⟩ = false := by
    have := (hb78.block g6 (lt_of_some HO6.out)).trans HO6.out
    simp [World.frozen?, this]
  have HI8 := Lib.hid (HI7.out.below hb78)
  have HB8 := Lib.hid (below_trans2 HB7.out hb78)
  clear hH hb78 hcfg himg e1 e6 h8 hs8 HC7 HM7 hbl HO1 HO6 HI7 HB7
  go_upto_region 12 with (fail)
  have p1 : w.heap.size ≤ g1 := by have := HB5.out.size; omega
  have p6 : w.heap.size ≤ g6 := by have := HB5.out.size; omega
  have HI9a := HI8.out.stay ((Stay.refl g1 (g1 + 1) w8).set_ ⟨g1, 0, none⟩ (.inl ⟨Nat.le_refl _, Nat.lt_succ_self _⟩) (.int .u64 (IntKind.u64.wrap (a1 + 2)))) (.inl (by omega))
  have HI9 := Lib.hid (HI9a.stay ((Stay.refl g6 (g6 + 1) (w8.setCell ⟨g1, 0, none⟩ (.int .u64 (IntKind.u64.wrap (a1 + 2))))).set_ ⟨g6, 1, none⟩ (.inl ⟨Nat.le_refl _, Nat.lt_succ_self _⟩) (.int .u64 (IntKind.u64.wrap (a1 + 3)))) (.inl (by omega)))
  have HB9 := Lib.hid ((HB8.out.setCell (p := ⟨g1, 0, none⟩) p1 (.int .u64 (IntKind.u64.wrap (a1 + 2)))).setCell (p := ⟨g6, 1, none⟩) p6 (.int .u64 (IntKind.u64.wrap (a1 + 3))))
  obtain ⟨W9, hW9⟩ : ∃ W9, (w8.setCell ⟨g1, 0, none⟩ (.int .u64 (IntKind.u64.wrap (a1 + 2)))).setCell ⟨g6, 1, none⟩ (.int .u64 (IntKind.u64.wrap (a1 + 3))) = W9 := ⟨_, rfl⟩
  rw [hW9] at HI9 HB9 ⊢
  clear hW9 HI9a HI8 HB8 i0 i5 c10 c61 f10 f61
  have hld1 : Calls Try.prog 35 #[.pointer (some ⟨b, 0, none⟩), .int .i64 1, .int .i64 0] W9 fun e w' => Does W.heap.size w4.heap.size W9 b (upd A 1 0 0) (accV 1 1 0 0 0 true) 0 e w' := m_load W.heap.size w4.heap.size W9 b A HI9.out 1 (by decide) 0 (by omega) 0 (by
    rw [HA1.out]
    cases m with
    | zero => omega
    | succ m => rfl)
  go_upto_region 13 with (go_at_call 35; refine hld1.mono ?_; rintro e w10 ⟨rfl, hI10, hS10⟩)
  have HI11 := Lib.hid (hI10.below (below_new w10 (.cells #[.int .i64 1, .int .i64 1, .int .i64 0, .int .u64 0, .int .u64 0, .bool true] 63)))
  have HM11 := Lib.hid (Mem.new w10 63 #[.int .i64 1, .int .i64 1, .int .i64 0, .int .u64 0, .int .u64 0, .bool true])
  have b10 := HB9.out.trans (hS10.below HS4.out HB9.out.size)
  have HB11 := Lib.hid (b10.alloc b10.size (.cells #[.int .i64 1, .int .i64 1, .int .i64 0, .int .u64 0, .int .u64 0, .bool true] 63))
  obtain ⟨ab, hab⟩ : ∃ ab, w10.heap.size = ab := ⟨_, rfl⟩
  rw [hab] at HM11 ⊢
  obtain ⟨W11, hW11⟩ : ∃ W11, w10.alloc (.cells #[.int .i64 1, .int .i64 1, .int .i64 0, .int .u64 0, .int .u64 0, .bool true] 63) = W11 := ⟨_, rfl⟩
  rw [hW11] at HI11 HM11 HB11 ⊢
  have hab4 : w4.heap.size ≤ ab := by have := hI10.top; omega
  clear hW11 hab hI10 hS10 b10 hld1 HI9 HB9
  have hld6 : Calls Try.prog 35 #[.pointer (some ⟨b, 0, none⟩), .int .i64 6, .int .i64 1] W11 fun e w' => Does W.heap.size w4.heap.size W11 b (upd (upd A 1 0 0) 6 1 0) (accV 1 6 1 0 0 true) 0 e w' := m_load W.heap.size w4.heap.size W11 b (upd A 1 0 0) HI11.out 6 (by decide) 1 (by rw [upd_len]; omega) 0 (by
    show (A 6).getD 1 0 = 0
    rw [HA6.out]
    rfl)
  go_upto_region 14 with (go_at_call 35; refine hld6.mono ?_; rintro e w12 ⟨rfl, hI12, hS12⟩)
  have HM13 := Lib.hid (Mem.new w12 63 #[.int .i64 1, .int .i64 6, .int .i64 1, .int .u64 0, .int .u64 0, .bool true])
  have b12 := HB11.out.trans (hS12.below HS4.out HB11.out.size)
  have HB13 := Lib.hid (b12.alloc b12.size (.cells #[.int .i64 1, .int .i64 6, .int .i64 1, .int .u64 0, .int .u64 0, .bool true] 63))
  have M12 := (hS12.block ab HM11.out.lt (.inr hab4)).trans HM11.out
  have HA13 := Lib.hid (Mem.alloc M12 (.cells #[.int .i64 1, .int .i64 6, .int .i64 1, .int .u64 0, .int .u64 0, .bool true] 63))
  obtain ⟨ac, hac⟩ : ∃ ac, w12.heap.size = ac := ⟨_, rfl⟩
  rw [hac] at HM13 ⊢
  obtain ⟨W13, hW13⟩ : ∃ W13, w12.alloc (.cells #[.int .i64 1, .int .i64 6, .int .i64 1, .int .u64 0, .int .u64 0, .bool true] 63) = W13 := ⟨_, rfl⟩
  rw [hW13] at HM13 HB13 HA13 ⊢
  clear hW13 hac hI12 hS12 b12 M12 hld6 HI11 HM11 HB11
  go_upto_region 19 with (first
    | (go_at_call 35; refine (m_load_nil _ _ _).mono ?_; rintro e w14 ⟨rfl, hb14⟩)
    | (go_at_call 37; refine (m_store_nil _ _ _ _).mono ?_; rintro e w15 ⟨rfl, hb15⟩)
    | (go_at_call 34; refine (m_swap_nil _ _ _ _ _).mono ?_; rintro e w16 ⟨rfl, hb16⟩)
    | (go_at_call 33; refine (m_add_nil _ _ _ _).mono ?_; rintro e w17 ⟨rfl, hb17⟩))
  have hz1 := below_trans2 (hb14.alloc hb14.size (.cells #[.int .i64 0, .int .i64 0, .int .i64 0, .int .u64 0, .int .u64 0, .bool false] 63)) hb15
  have hz2 := below_trans2 (hz1.alloc hz1.size (.cells #[.int .i64 0, .int .i64 0, .int .i64 0, .int .u64 0, .int .u64 0, .bool false] 63)) hb16
  have hz3 := below_trans2 (hz2.alloc hz2.size (.cells #[.int .i64 0, .int .i64 0, .int .i64 0, .int .u64 0, .int .u64 0, .bool false] 63)) hb17
  have HZ := Lib.hid (hz3.alloc hz3.size (.cells #[.int .i64 0, .int .i64 0, .int .i64 0, .int .u64 0, .int .u64 0, .bool false] 63))
  obtain ⟨W18, hW18⟩ : ∃ W18, w17.alloc (.cells #[.int .i64 0, .int .i64 0, .int .i64 0, .int .u64 0, .int .u64 0, .bool false] 63) = W18 := ⟨_, rfl⟩
  rw [hW18] at HZ ⊢
  clear hW18 hz1 hz2 hz3 hb14 hb15 hb16 hb17
  go_upto_region 21 with (first
    | (go_at_call 29; refine (m_image_nil _).mono ?_; rintro e w19 ⟨rfl, hb19⟩)
    | simp only [img0])
  have HZ2 := Lib.hid (below_trans2 HZ.out hb19)
  have HB19 := Lib.hid (below_trans2 HB13.out HZ2.out)
  have ma := HA13.out.below HZ2.out HA13.out.lt
  have mc := HM13.out.below HZ2.out HM13.out.lt
  have da : w19.cell? ⟨ab, 3, none⟩ = some (.int .u64 0) := ma.cell 3
  have dc : w19.cell? ⟨ac, 3, none⟩ = some (.int .u64 0) := mc.cell 3
  clear ma mc hb19 HZ HZ2 HA13 HM13 HB13
  go_wp2_with fail
  refine (CelA.l_awake _).mono ?_
  rintro e w20 ⟨rfl, hb20⟩
  have HB20 := Lib.hid (below_trans2 HB19.out hb20)
  clear hb20 HB19
  go_wp2
  go_ret
  exact ⟨rfl, .of_below HB20.out⟩

/-! The row's step. -/
set_option maxRecDepth 100000 in
theorem lifted (os : Os) (started : os.Started) (H : Type) (enc : TypeId × Value → H) :
    ReturnsInHanded {} Try.checked os 11 .any (Rows.cellsCopiesSpec.pre6 enc Try.prog Try.f11 Rows.cellsCopiesRow.domain false) (Rows.cellsCopiesSpec.post enc Try.prog Try.f11 false true false false) := by
  refine returnsInHanded_of_change (C := Try.checked) own started (by kernel_rfl) Try.func11
    (ChangeSpec.witness6 (enc := enc) (C := Try.checked) false ⟨#[], #[.agg #[.int .i64 0, .int .i64 0, .int .i64 0, .int .i64 0, .int .i64 0], .int .u64 0], []⟩ 8 (by kernel_rfl) (by kernel_rfl) (by kernel_rfl) (by kernel_rfl)) ?_
  intro W base args ds gs before hval0 hW hcnd _
  have hval : ∀ (j : Nat) t v, Try.f11.params[j]? = some t → args[j]? = some v → Value.okWide Try.prog W .any base t v := hval0
  have hW' := hW
  obtain ⟨p, q, hA0, hV, rfl, hfz, hnd⟩ := hW
  have hA : DataW.TrodAll enc Try.prog W 0 (fun _ => true) true Try.f11.params.toList args.toList ds p := hA0
  rw [Try.params11] at hA hval
  obtain ⟨v0, vs0, d0, ds0, p0, q0, hargs, rfl, rfl, h0, r0⟩ := trodAll_cons hA
  obtain ⟨v1, vs1, d1, ds1, p1, q1, rfl, rfl, rfl, h1, r1⟩ := trodAll_cons r0
  obtain ⟨rfl, rfl, rfl⟩ := trodAll_nil r1
  obtain rfl : args = #[v0, v1] := by cases args; simp_all
  obtain ⟨rfl, rfl⟩ := trodVars_none hV
  have hk : ∀ W', Kept W W' → Rows.cellsCopiesSpec.post enc Try.prog Try.f11 false true false false W #[v0, v1] (.bool true) W' := fun W' hb =>
    post_law laidOut readable rfl Try.underlying4 rfl hW' rfl hb
  clear hA0 hval0 hA hW'
  obtain ⟨x0_0, x0_1, x0_2, x0_3, x0_4, rfl, wx0_0, wx0_1, wx0_2, wx0_3, wx0_4⟩ := LayO.open_arr5 (hval 0 28 v0 rfl rfl) h0
  obtain ⟨a1, rfl, rfl, rfl, w1⟩ := open_int Try.underlying25 (hval 1 25 v1 rfl rfl) h1
  refine (walk W x0_0 x0_1 x0_2 x0_3 x0_4 wx0_0 wx0_1 wx0_2 wx0_3 wx0_4 a1 w1).mono fun e W' ⟨he, hg⟩ => ?_
  subst he
  exact ⟨_, rfl, hk W' hg⟩

theorem over : Rows.cellsCopiesRow.holds Try.pinned (OpenSpec.ofChange Rows.cellsCopiesSpec) :=
  OpenClaim.holds_of_wide 11 Try.f11 rfl rfl rfl rfl rfl rfl rfl ⟨rfl, rfl, rfl, rfl, rfl⟩ rfl rfl rfl rfl rfl (by kernel_rfl) Try.func11 (by kernel_rfl)
    (of_decide_eq_true (by kernel_rfl)) (by unfold Func.isWrapper; first | (rw [if_pos (by decide +kernel)]; kernel_rfl) | (rw [if_neg (by decide +kernel)]; exact ⟨rfl, rfl⟩))
    (fun os started H enc _ => lifted os started H enc)

/-- The statement. -/
theorem proved : Rows.CellsCopiesSaid :=
  over
#print axioms proved
end Go.Proofs.Ytbedgdpcopghfaa.cellsCopies
