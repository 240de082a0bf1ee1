/-
  Proved: a store changes no other cell than its own, in cells of any made configuration. No condition.
-/
import Derived.Test.YtbedgdpcopghfaaRows
import Derived.WalkKit
import Derived.ProofKit
import Derived.OpenShut
import Derived.Test.YtbedgdpcopghfaaFrame
import Derived.Test.YtbedgdpcopghfaaCelOp
import Derived.Test.YtbedgdpcopghfaaCelB
import Derived.Test.YtbedgdpcopghfaaCelZ
import Derived.Deep.RegionHeld3
import Derived.Deep.Cut
namespace Go.Proofs.Ytbedgdpcopghfaa.cellsApart
open Go.ChangeShapes Go.WideShapes Go.ChangeAt Go.RowKit
open LawFrame
open Go.ChangeMaps (open_string)
set_option linter.unusedVariables false

theorem own : ownKnob Try.prog.godebug = none := by kernel_rfl
theorem laidOut : laidOutB Try.prog = true := by kernel_rfl

open PlainT BlkW LayS LayA LayH LayK LayO LayP CelS CelM CelP CelV CelN CelO CelF CelB CelZ CelOp
set_option maxHeartbeats 4000000
set_option maxRecDepth 100000
theorem upd_same {A : Int → List Int} {k : Int} {i : Nat} {x : Int} (hi : i < (A k).length) (hx : (A k).getD i 0 = x) : upd A k i x = A := by
  funext j
  unfold upd
  split
  · rename_i e
    subst e
    rw [← hx, List.getD_eq_getElem?_getD, List.getElem?_eq_getElem hi, Option.getD_some]
    exact List.set_getElem_self hi
  · rfl
theorem upd_get {A : Int → List Int} {k j : Int} {i n : Nat} {v : Int} (hi : i < (A k).length) (hn : n < (A j).length) : (upd A k i v j).getD n 0 = if j = k ∧ n = i then v else (A j).getD n 0 := by
  unfold upd
  by_cases e : j = k
  · subst e
    rw [if_pos rfl]
    by_cases e2 : n = i
    · subst e2
      rw [if_pos ⟨rfl, rfl⟩, List.getD_eq_getElem?_getD, List.getElem?_set_self hi]
      rfl
    · rw [if_neg (fun h => e2 h.2), List.getD_eq_getElem?_getD, List.getElem?_set_ne (Ne.symm e2), ← List.getD_eq_getElem?_getD]
  · rw [if_neg e, if_neg (fun h => e h.1)]
theorem A0_out (q : Cfg) (n no nt : Nat) (xs : List Int) (k : Int) (hk : ¬ (1 ≤ k ∧ k ≤ 8)) : A0 q n no nt xs k = [] := by
  unfold A0
  rw [if_neg (by omega), if_neg (by omega), if_neg (by omega), if_neg (by omega), if_neg (by omega), if_neg (by omega)]
/-- What the loops carry: the cells, one turned; the reference's; the operation's box. -/
structure PS (w0 : World) (lo1 hi1 lo2 hi2 b rb : Nat) (q : Cfg) (A : Int → List Int) (c : Int) (i : Nat) (v : Int) (gx : Nat) (cs : Array Value) (w : World) : Prop where
  m : Is lo1 hi1 w b (upd A c i v)
  r : RefIs lo2 hi2 w rb q A
  x : Mem w gx 57 cs
  gx : gx < lo1
  lo : w0.heap.size ≤ lo1
  mid : hi1 ≤ lo2
  old : Below w0.heap.size w0 w
theorem PS.go {w0 w w' : World} {lo1 hi1 lo2 hi2 b rb gx i : Nat} {q : Cfg} {A : Int → List Int} {c v : Int} {cs : Array Value} (h : PS w0 lo1 hi1 lo2 hi2 b rb q A c i v gx cs w) (hm : Is lo1 hi1 w' b (upd A c i v)) (hs : Stay lo1 hi1 w w') (o : Obj) : PS w0 lo1 hi1 lo2 hi2 b rb q A c i v gx cs (w'.alloc o) := by
  have hx : w'.heap[gx]? = w.heap[gx]? := hs.block gx h.x.lt (.inl h.gx)
  have hb := h.old.trans (hs.below h.lo h.old.size)
  exact ⟨hm.below (below_new _ _), (h.r.stay hs (.inr h.mid)).below (below_new _ _), Mem.alloc (hx.trans h.x) o, h.gx, h.lo, h.mid, hb.alloc hb.size o⟩
/-- What a region that draws holds. -/
structure QS (w0 : World) (lo1 hi1 lo2 hi2 b rb : Nat) (q : Cfg) (A : Int → List Int) (gx : Nat) (cs : Array Value) (w : World) : Prop where
  m : Is lo1 hi1 w b A
  r : RefIs lo2 hi2 w rb q A
  x : Mem w gx 57 cs
  old : Below w0.heap.size w0 w
abbrev SR (w0 : World) (lo1 hi1 lo2 hi2 b rb : Nat) (q : Cfg) (A : Int → List Int) (gx : Nat) (cs : Array Value) (p : Int) (w : World) : Prop := w.cell? ⟨gx, 2, none⟩ = some (.int .i64 p) ∧ QS w0 lo1 hi1 lo2 hi2 b rb q A gx cs w
theorem RefIs.drew {lo hi rb : Nat} {w : World} {q : Cfg} {A : Int → List Int} (h : RefIs lo hi w rb q A) : RefIs lo hi w.drew rb q A := by
  obtain ⟨V, X, c, t, s, h⟩ := h
  exact ⟨V, X, c, t, s, h.of_blocks h.top fun x h1 h2 => rfl⟩
theorem Is.drew {lo hi b : Nat} {w : World} {A : Int → List Int} (h : Is lo hi w b A) : Is lo hi w.drew b A := by
  obtain ⟨bm, g, h⟩ := h
  exact ⟨bm, g, h.drewN 1⟩
theorem QS.drew {w0 w : World} {lo1 hi1 lo2 hi2 b rb gx : Nat} {q : Cfg} {A : Int → List Int} {cs : Array Value} (h : QS w0 lo1 hi1 lo2 hi2 b rb q A gx cs w) : QS w0 lo1 hi1 lo2 hi2 b rb q A gx cs w.drew :=
  ⟨Is.drew h.m, RefIs.drew h.r, h.x.drewN 1, below_drewN h.old 1⟩

theorem readable : ∀ t ∈ Try.f12.params.toList, Try.prog.readableRec t = true ∧ t < Try.prog.types.size := by
  have h : (Try.f12.params.toList.all fun t => Try.prog.readableRec t && decide (t < Try.prog.types.size)) = true := by kernel_rfl
  intro t ht
  have := List.all_eq_true.1 h t ht
  simpa using this

/-! The walk. -/
theorem walk (w : World) (x0_0 x0_1 x0_2 x0_3 x0_4 : Int) (wx0_0 : LayS.InI x0_0) (wx0_1 : LayS.InI x0_1) (wx0_2 : LayS.InI x0_2) (wx0_3 : LayS.InI x0_3) (wx0_4 : LayS.InI x0_4) (p1_0 p1_1 p1_2 p1_3 p1_4 : Int) (wp1_0 : LayS.InI p1_0) (wp1_1 : LayS.InI p1_1) (wp1_2 : LayS.InI p1_2) (wp1_3 : CelOp.InU p1_3) (wp1_4 : CelOp.InU p1_4) :
    Calls Try.prog 12 #[.agg #[.int .i64 x0_0, .int .i64 x0_1, .int .i64 x0_2, .int .i64 x0_3, .int .i64 x0_4], CelOp.opV p1_0 p1_1 p1_2 p1_3 p1_4] w fun e w' => e = .returned (.bool true) ∧ Kept w w' := by
  show Calls _ _ #[.agg _, .agg _] _ _
  clear wx0_0 wx0_1 wx0_2 wx0_3 wx0_4 wp1_0 wp1_1 wp1_2 wp1_3
  have HB0 := Lib.hid (below_new2 w (.cells #[.int .i64 x0_0, .int .i64 x0_1, .int .i64 x0_2, .int .i64 x0_3, .int .i64 x0_4] 28) (.cells #[.int .i64 p1_0, .int .i64 p1_1, .int .i64 p1_2, .int .u64 p1_3, .int .u64 p1_4] 57))
  have HX0 := Lib.hid (mem_new1 w (.cells #[.int .i64 x0_0, .int .i64 x0_1, .int .i64 x0_2, .int .i64 x0_3, .int .i64 x0_4] 28) 57 #[.int .i64 p1_0, .int .i64 p1_1, .int .i64 p1_2, .int .u64 p1_3, .int .u64 p1_4])
  have HSZ : Hid (((w.alloc (.cells #[.int .i64 x0_0, .int .i64 x0_1, .int .i64 x0_2, .int .i64 x0_3, .int .i64 x0_4] 28)).alloc (.cells #[.int .i64 p1_0, .int .i64 p1_1, .int .i64 p1_2, .int .u64 p1_3, .int .u64 p1_4] 57)).heap.size = w.heap.size + 2) := Lib.hid (by rw [size_new, size_new])
  go_enter Try.func12, Try.ntmps12
  go_upto_region 4 with (go_at_call 25; refine (l_start _ _ _ _ _ _ _).mono ?_; rintro e w1 ⟨q, n, no, nt, lo1, hi1, lo2, hi2, b, rb, rfl, hst⟩)
  have HX1 := Lib.hid (HX0.out.below hst.old HX0.out.lt)
  have HB1 := Lib.hid (below_trans2 HB0.out hst.old)
  have HLO : Hid (w.heap.size + 2 ≤ lo1) := Lib.hid (by have := hst.lo; rw [HSZ.out] at this; exact this)
  have HMID := Lib.hid hst.mid
  obtain ⟨A, hA⟩ : ∃ A, A0 q n no nt (gen q.w.toNat) = A := ⟨_, rfl⟩
  have hI := hst.mem
  have hR := hst.ref
  rw [hA] at hI hR
  have HI := Lib.hid hI
  have HR := Lib.hid hR
  have hout : ∀ k, ¬ (1 ≤ k ∧ k ≤ 8) → A k = [] := fun k hk => by rw [← hA]; exact A0_out _ _ _ _ _ k hk
  have hlen : ∀ k, (A k).length ≤ 1000 := by obtain ⟨_, _, h⟩ := hI; exact h.len
  clear hst hI hR hA HB0 HX0 HSZ
  have e1 := HX1.out.cell 1
  have e2 := HX1.out.cell 2
  have e4 := HX1.out.cell 4
  simp at e1 e2 e4
  go_upto_region 5 with (go_at_call 16; refine (k_place_ex _ _ (by omega) (by omega) _).mono ?_; rintro e w2 ⟨p, p0, p1, rfl, rfl⟩)
  obtain ⟨c, hc⟩ : ∃ c, 1 + p = c := ⟨_, rfl⟩
  have hck : 1 ≤ c ∧ c ≤ 8 := by omega
  rw [hc]
  clear hc p0 p1
  have hsz := r_size lo2 hi2 w1 rb q A HR.out hout c
  by_cases h0 : (A c).length = 0
  · rw [h0] at hsz
    clear hout hlen
    go_wp2_with (go_at_call 30; refine hsz.mono ?_; rintro e w2 ⟨rfl, rfl⟩)
    refine (CelA.l_awake _).mono ?_
    rintro e w3 ⟨rfl, hb3⟩
    have HB3 := Lib.hid (below_trans2 HB1.out hb3)
    clear hb3
    go_wp2
    go_ret
    exact ⟨rfl, .of_below HB3.out⟩
  · have hlc := hlen c
    obtain ⟨L, hL⟩ : ∃ L, (A c).length = L := ⟨_, rfl⟩
    rw [hL] at hsz h0 hlc
    have HL := Lib.hid hL
    have hL0 : ((L : Int) == 0) = false := by rw [beq_eq_false_iff_ne]; omega
    clear hL
    have hplace : ∀ w, Calls Try.prog 16 #[.int .i64 p1_2, .int .i64 L] w fun e w' => ∃ v, 0 ≤ v ∧ v ≤ (L : Int) - 1 ∧ e = .returned (.int .i64 v) ∧ w = w' := fun w => k_place_ex p1_2 L (by omega) (by omega) w
    have hszA : ∀ w', RefIs lo2 hi2 w' rb q A → Calls Try.prog 30 #[.pointer (some ⟨rb, 0, none⟩), .int .i64 c] w' fun e w'' => e = .returned (.int .i64 L) ∧ w' = w'' := fun w' hw => by
      have := r_size lo2 hi2 w' rb q A hw hout c
      rwa [HL.out] at this
    obtain ⟨gx, hgx⟩ : ∃ gx, w.heap.size + 1 = gx := ⟨_, rfl⟩
    have HGX : Hid (gx < lo1 ∧ w.heap.size ≤ gx) := Lib.hid (by have := HLO.out; omega)
    go_upto_region 7 with (go_at_call 30; refine hsz.mono ?_; rintro e w2 ⟨rfl, rfl⟩)
    rw [hgx] at HX1 e1 e2 e4
    first | rw [hgx] | skip
    clear hgx
    have HQ1 : QS w lo1 hi1 lo2 hi2 b rb q A gx #[.int .i64 p1_0, .int .i64 p1_1, .int .i64 p1_2, .int .u64 p1_3, .int .u64 p1_4] w1 := ⟨HI.out, HR.out, HX1.out, HB1.out⟩
    have hs0 : SR w lo1 hi1 lo2 hi2 b rb q A gx #[.int .i64 p1_0, .int .i64 p1_1, .int .i64 p1_2, .int .u64 p1_3, .int .u64 p1_4] p1_2 w1.drew := ⟨e2, HQ1.drew⟩
    have HQD := Lib.hid HQ1.drew
    clear HQ1
    go_region_held3 (SR w lo1 hi1 lo2 hi2 b rb q A gx #[.int .i64 p1_0, .int .i64 p1_1, .int .i64 p1_2, .int .u64 p1_3, .int .u64 p1_4] p1_2) (first | assumption | exact hs0) (first
      | (go_at_call 30; (with_reducible refine (hszA _ (by exact HQD.out.r)).mono ?_); rintro e w3 ⟨rfl, rfl⟩)
      | (go_at_call 16; (with_reducible refine (hplace _).mono ?_); rintro e w3 ⟨v, v0, v1, rfl, rfl⟩))
    obtain ⟨i, hi⟩ : ∃ i : Nat, v = i := ⟨v.toNat, by omega⟩
    subst hi
    have hiL : i < L := by omega
    obtain ⟨x, hx⟩ : ∃ x, (A c).getD i 0 = x := ⟨_, rfl⟩
    rename_i hH
    clear hH v0 v1 hs0
    go_upto_region 9 with (go_at_call 37; refine (m_store lo1 hi1 _ b A HQD.out.m c hck i (by rw [HL.out]; exact hiL) x hx p1_4).mono ?_; rintro e w5 ⟨rfl, hI5, hS5⟩)
    have HPS : Hid (PS w lo1 hi1 lo2 hi2 b rb q A c i p1_4 gx #[.int .i64 p1_0, .int .i64 p1_1, .int .i64 p1_2, .int .u64 p1_3, .int .u64 p1_4] (w5.alloc (.cells #[.int .i64 2, .int .i64 c, .int .i64 i, .int .u64 x, .int .u64 p1_4, .bool true] 63))) := Lib.hid ⟨hI5.below (below_new _ _), (HQD.out.r.stay hS5 (.inr HMID.out)).below (below_new _ _), Mem.alloc ((hS5.block gx HQD.out.x.lt (.inl HGX.out.1)).trans HQD.out.x) _, HGX.out.1, by have := HGX.out; omega, HMID.out, (HQD.out.old.trans (hS5.below (by have := HGX.out; omega) HQD.out.old.size)).alloc (by have := hS5.size; have := HQD.out.old.size; omega) _⟩
    obtain ⟨W5, hW5⟩ : ∃ W5, w5.alloc (.cells #[.int .i64 2, .int .i64 c, .int .i64 i, .int .u64 x, .int .u64 p1_4, .bool true] 63) = W5 := ⟨_, rfl⟩
    have ha4 : W5.cell? ⟨w5.heap.size, 4, none⟩ = some (.int .u64 p1_4) := by rw [← hW5]; exact (Mem.new w5 63 #[.int .i64 2, .int .i64 c, .int .i64 i, .int .u64 x, .int .u64 p1_4, .bool true]).cell 4
    rw [hW5] at HPS ⊢
    clear hW5 hI5 hS5 HQD e1 e2 e4 HI HR HX1 HB1 hsz hplace
    have e4 : W5.cell? ⟨gx, 4, none⟩ = some (.int .u64 p1_4) := HPS.out.x.cell 4
    go_wp2_with fail
    clear e4 ha4
    go_loopw [12] (fun kv wr => ∃ k : Nat, 1 ≤ k ∧ k ≤ 9 ∧ kv = .int .i64 k ∧ PS w lo1 hi1 lo2 hi2 b rb q A c i p1_4 gx #[.int .i64 p1_0, .int .i64 p1_1, .int .i64 p1_2, .int .u64 p1_3, .int .u64 p1_4] wr) (fun kv _ => 9 - (intOf kv).toNat)
    case atStart => exact ⟨1, by omega, by omega, rfl, HPS.out⟩
    case round =>
      clear HPS
      obtain ⟨k, hk1, hk9, rfl, hps⟩ := hrel
      have HPS := Lib.hid hps
      clear hps
      by_cases hk : k ≤ 8
      · have hkk : (k : Int) ≤ 8 := by omega
        have hlk := hlen k
        obtain ⟨M, hM⟩ : ∃ M, (A k).length = M := ⟨_, rfl⟩
        have HMM := Lib.hid hM
        rw [hM] at hlk
        clear hM
        go_wp2_with fail
        go_loopw [13] (fun jv wr => ∃ j : Nat, j ≤ M ∧ jv = .int .i64 j ∧ PS w lo1 hi1 lo2 hi2 b rb q A c i p1_4 gx #[.int .i64 p1_0, .int .i64 p1_1, .int .i64 p1_2, .int .u64 p1_3, .int .u64 p1_4] wr) (fun jv _ => M - (intOf jv).toNat)
        case atStart => exact ⟨0, by omega, rfl, HPS.out⟩
        case round =>
          clear HPS
          obtain ⟨j, hj, rfl, hps⟩ := hrel
          have HPS := Lib.hid hps
          clear hps
          have hszk := r_size lo2 hi2 wr rb q A HPS.out.r hout k
          rw [HMM.out] at hszk
          by_cases hlt : j < M
          · have hjm : (j : Int) < M := by omega
            obtain ⟨y, hy⟩ : ∃ y, (A k).getD j 0 = y := ⟨_, rfl⟩
            have hget := r_get lo2 hi2 wr rb q A HPS.out.r k (by omega) j (by rw [HMM.out]; exact hlt) y hy
            have HUG := Lib.hid (upd_get (A := A) (k := c) (j := k) (i := i) (n := j) (v := p1_4) (by rw [HL.out]; exact hiL) (by rw [HMM.out]; exact hlt))
            rw [hy] at HUG
            have e4 : wr.cell? ⟨gx, 4, none⟩ = some (.int .u64 p1_4) := HPS.out.x.cell 4
            clear hy
            by_cases ec : (k : Int) = c
            · have hec : ((k : Int) == c) = true := by simpa using ec
              by_cases ej : j = i
              · have hej : ((j : Int) == (i : Int)) = true := by rw [beq_iff_eq]; omega
                have HGOT : Hid ((upd A c i p1_4 k).getD j 0 = p1_4) := Lib.hid (HUG.out.trans (if_pos ⟨ec, ej⟩))
                clear HUG ec ej
                go_upto_region 21 with (first | (go_at_call 30; refine hszk.mono ?_; rintro e w7 ⟨rfl, rfl⟩) | (go_at_call 31; refine hget.mono ?_; rintro e w7 ⟨rfl, rfl⟩) | (go_at_call 35; refine (m_load lo1 hi1 wr b _ HPS.out.m k (by omega) j (by rw [upd_len, HMM.out]; exact hlt) p1_4 HGOT.out).mono ?_; rintro e w7 ⟨rfl, hI7, hS7⟩; have HI7 := Lib.hid hI7; have HS7 := Lib.hid hS7; clear hI7 hS7))
                have HP7 : Hid (PS w lo1 hi1 lo2 hi2 b rb q A c i p1_4 gx #[.int .i64 p1_0, .int .i64 p1_1, .int .i64 p1_2, .int .u64 p1_3, .int .u64 p1_4] (w7.alloc (.cells #[.int .i64 1, .int .i64 k, .int .i64 j, .int .u64 p1_4, .int .u64 p1_4, .bool true] 63))) := Lib.hid (HPS.out.go (by have := HI7.out; rwa [upd_same (by rw [upd_len, HMM.out]; exact hlt) HGOT.out] at this) HS7.out _)
                go_wp2_with fail
                go_roundw
                case rel => exact ⟨j + 1, by omega, by go_num, HP7.out⟩
                case measure => simp [intOf]; omega
              · have hej : ((j : Int) == (i : Int)) = false := by rw [beq_eq_false_iff_ne]; omega
                have HGOT : Hid ((upd A c i p1_4 k).getD j 0 = y) := Lib.hid (HUG.out.trans (if_neg fun h => ej h.2))
                clear HUG ec ej
                go_upto_region 21 with (first | (go_at_call 30; refine hszk.mono ?_; rintro e w7 ⟨rfl, rfl⟩) | (go_at_call 31; refine hget.mono ?_; rintro e w7 ⟨rfl, rfl⟩) | (go_at_call 35; refine (m_load lo1 hi1 wr b _ HPS.out.m k (by omega) j (by rw [upd_len, HMM.out]; exact hlt) y HGOT.out).mono ?_; rintro e w7 ⟨rfl, hI7, hS7⟩; have HI7 := Lib.hid hI7; have HS7 := Lib.hid hS7; clear hI7 hS7))
                have HP7 : Hid (PS w lo1 hi1 lo2 hi2 b rb q A c i p1_4 gx #[.int .i64 p1_0, .int .i64 p1_1, .int .i64 p1_2, .int .u64 p1_3, .int .u64 p1_4] (w7.alloc (.cells #[.int .i64 1, .int .i64 k, .int .i64 j, .int .u64 y, .int .u64 y, .bool true] 63))) := Lib.hid (HPS.out.go (by have := HI7.out; rwa [upd_same (by rw [upd_len, HMM.out]; exact hlt) HGOT.out] at this) HS7.out _)
                go_wp2_with fail
                go_roundw
                case rel => exact ⟨j + 1, by omega, by go_num, HP7.out⟩
                case measure => simp [intOf]; omega
            · have hec : ((k : Int) == c) = false := by rw [beq_eq_false_iff_ne]; exact ec
              have HGOT : Hid ((upd A c i p1_4 k).getD j 0 = y) := Lib.hid (HUG.out.trans (if_neg fun h => ec h.1))
              clear HUG ec
              go_upto_region 21 with (first | (go_at_call 30; refine hszk.mono ?_; rintro e w7 ⟨rfl, rfl⟩) | (go_at_call 31; refine hget.mono ?_; rintro e w7 ⟨rfl, rfl⟩) | (go_at_call 35; refine (m_load lo1 hi1 wr b _ HPS.out.m k (by omega) j (by rw [upd_len, HMM.out]; exact hlt) y HGOT.out).mono ?_; rintro e w7 ⟨rfl, hI7, hS7⟩; have HI7 := Lib.hid hI7; have HS7 := Lib.hid hS7; clear hI7 hS7))
              have HP7 : Hid (PS w lo1 hi1 lo2 hi2 b rb q A c i p1_4 gx #[.int .i64 p1_0, .int .i64 p1_1, .int .i64 p1_2, .int .u64 p1_3, .int .u64 p1_4] (w7.alloc (.cells #[.int .i64 1, .int .i64 k, .int .i64 j, .int .u64 y, .int .u64 y, .bool true] 63))) := Lib.hid (HPS.out.go (by have := HI7.out; rwa [upd_same (by rw [upd_len, HMM.out]; exact hlt) HGOT.out] at this) HS7.out _)
              go_wp2_with fail
              go_roundw
              case rel => exact ⟨j + 1, by omega, by go_num, HP7.out⟩
              case measure => simp [intOf]; omega
          · obtain rfl : j = M := by omega
            go_wp2_with (go_at_call 30; refine hszk.mono ?_; rintro e w7 ⟨rfl, rfl⟩)
            go_roundw
            case rel => exact ⟨k + 1, by omega, by omega, by go_num, HPS.out⟩
            case measure => simp [intOf]; omega
      · have hkk : (8 : Int) < k := by omega
        go_wp2_with fail
        refine (CelA.l_awake _).mono ?_
        rintro e w6 ⟨rfl, hb6⟩
        have HB6 := Lib.hid (below_trans2 HPS.out.old hb6)
        clear hb6
        go_wp2
        go_ret
        exact ⟨rfl, .of_below HB6.out⟩

/-! The row's step. -/
set_option maxRecDepth 100000 in
theorem lifted (os : Os) (started : os.Started) (H : Type) (enc : TypeId × Value → H) :
    ReturnsInHanded {} Try.checked os 12 .any (Rows.cellsApartSpec.pre6 enc Try.prog Try.f12 Rows.cellsApartRow.domain false) (Rows.cellsApartSpec.post enc Try.prog Try.f12 false true false false) := by
  refine returnsInHanded_of_change (C := Try.checked) own started (by kernel_rfl) Try.func12
    (ChangeSpec.witness6 (enc := enc) (C := Try.checked) false ⟨#[], #[.agg #[.int .i64 0, .int .i64 0, .int .i64 0, .int .i64 0, .int .i64 0], .agg #[.int .i64 0, .int .i64 0, .int .i64 0, .int .u64 0, .int .u64 0]], []⟩ 8 (by kernel_rfl) (by kernel_rfl) (by kernel_rfl) (by kernel_rfl)) ?_
  intro W base args ds gs before hval0 hW hcnd _
  have hval : ∀ (j : Nat) t v, Try.f12.params[j]? = some t → args[j]? = some v → Value.okWide Try.prog W .any base t v := hval0
  have hW' := hW
  obtain ⟨p, q, hA0, hV, rfl, hfz, hnd⟩ := hW
  have hA : DataW.TrodAll enc Try.prog W 0 (fun _ => true) true Try.f12.params.toList args.toList ds p := hA0
  rw [Try.params12] at hA hval
  obtain ⟨v0, vs0, d0, ds0, p0, q0, hargs, rfl, rfl, h0, r0⟩ := trodAll_cons hA
  obtain ⟨v1, vs1, d1, ds1, p1, q1, rfl, rfl, rfl, h1, r1⟩ := trodAll_cons r0
  obtain ⟨rfl, rfl, rfl⟩ := trodAll_nil r1
  obtain rfl : args = #[v0, v1] := by cases args; simp_all
  obtain ⟨rfl, rfl⟩ := trodVars_none hV
  have hk : ∀ W', Kept W W' → Rows.cellsApartSpec.post enc Try.prog Try.f12 false true false false W #[v0, v1] (.bool true) W' := fun W' hb =>
    post_law laidOut readable rfl Try.underlying4 rfl hW' rfl hb
  clear hA0 hval0 hA hW'
  obtain ⟨x0_0, x0_1, x0_2, x0_3, x0_4, rfl, wx0_0, wx0_1, wx0_2, wx0_3, wx0_4⟩ := LayO.open_arr5 (hval 0 28 v0 rfl rfl) h0
  obtain ⟨p1_0, p1_1, p1_2, p1_3, p1_4, rfl, wp1_0, wp1_1, wp1_2, wp1_3, wp1_4⟩ := CelOp.open_op (hval 1 57 v1 rfl rfl) h1
  refine (walk W x0_0 x0_1 x0_2 x0_3 x0_4 wx0_0 wx0_1 wx0_2 wx0_3 wx0_4 p1_0 p1_1 p1_2 p1_3 p1_4 wp1_0 wp1_1 wp1_2 wp1_3 wp1_4).mono fun e W' ⟨he, hg⟩ => ?_
  subst he
  exact ⟨_, rfl, hk W' hg⟩

theorem over : Rows.cellsApartRow.holds Try.pinned (OpenSpec.ofChange Rows.cellsApartSpec) :=
  OpenClaim.holds_of_wide 12 Try.f12 rfl rfl rfl rfl rfl rfl rfl ⟨rfl, rfl, rfl, rfl, rfl⟩ rfl rfl rfl rfl rfl (by kernel_rfl) Try.func12 (by kernel_rfl)
    (of_decide_eq_true (by kernel_rfl)) (by unfold Func.isWrapper; first | (rw [if_pos (by decide +kernel)]; kernel_rfl) | (rw [if_neg (by decide +kernel)]; exact ⟨rfl, rfl⟩))
    (fun os started H enc _ => lifted os started H enc)

/-- The statement. -/
theorem proved : Rows.CellsApartSaid :=
  over
#print axioms proved
end Go.Proofs.Ytbedgdpcopghfaa.cellsApart
