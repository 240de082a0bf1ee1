/-
  The reference's Decode on bytes that begin with the four right ones.
-/
import Derived.Test.YtafidppjabdecaaCodeRF
import Derived.Deep.DeepCutAuto
import Derived.Deep.CutBlock
import Derived.Deep.RegionLaw
namespace Go.Proofs.Ytafidppjabdecaa.CodeRG
open Go.ChangeShapes Go.WideShapes Go.ChangeAt Go.RowKit
open PlainT BlkW LawFrame CodeS CodeW CodeA CodeE CodeF CodeG CodeH CodeI CodeJ CodeL CodeO CodeRA CodeRB CodeRC CodeRD CodeRE CodeRF
open CodeM (IsV)
set_option linter.unusedVariables false
set_option maxHeartbeats 1000000

theorem less {a b c d : Prop} (h : (a ∧ b ∧ c) ∨ d) : (a ∧ c) ∨ d := h.elim (fun x => .inl ⟨x.1, x.2.2⟩) .inr
/-- Loop 1: the twelve numbers of the configuration. -/
def arr12 (xs : List Int) : Array Value := ((xs ++ List.replicate (12 - xs.length) 0).map (Value.int .i64)).toArray
structure S1 (B : Nat) (w0 w : World) (l : List Int) (j : Nat) (bad : Bool) (xs : List Int) : Prop where
  rq : Rq B w (B + 1) l j bad
  res : Mem w B 29 Z16
  arr : Mem w (B + 2) 70 (arr12 xs)
  bel : Below B w0 w
theorem S1.read {B : Nat} {w0 w w' : World} {l : List Int} {j j' : Nat} {bad bad' : Bool} {xs : List Int} (h : S1 B w0 w l j bad xs) (hq : Rq B w' (B + 1) l j' bad') (hf : Fr TQ B w w') : S1 B w0 w' l j' bad' xs :=
  ⟨hq, CodeW.Mem.fr h.res hf (by unfold TQ; decide), CodeW.Mem.fr h.arr hf (by unfold TQ; decide), h.bel.trans hf.below⟩
theorem arr12_set (xs : List Int) (h : xs.length < 12) (x : Int) : (arr12 xs).setIfInBounds xs.length (.int .i64 x) = arr12 (xs ++ [x]) := by
  unfold arr12
  rw [List.setIfInBounds_toArray]
  congr 1
  obtain ⟨m, hm⟩ : ∃ m, 12 - xs.length = m + 1 := ⟨11 - xs.length, by omega⟩
  have hm2 : 12 - (xs ++ [x]).length = m := by simp; omega
  rw [hm, hm2, List.map_append, List.set_append_right _ _ (by simp)]
  simp [List.replicate_succ]
theorem S1.store {B : Nat} {w0 w : World} {l : List Int} {j : Nat} {bad : Bool} {xs : List Int} (h : S1 B w0 w l j bad xs) (hx : xs.length < 12) (x : Int) : S1 B w0 (w.setCell ⟨B + 2, xs.length, none⟩ (.int .i64 x)) l j bad (xs ++ [x]) := by
  refine ⟨CodeRF.Rq.far_ h.rq (p := ⟨B + 2, _, none⟩) (by simp) (by simp) _, h.res.far (by simp) _, ?_, h.bel.setCell (by simp) _⟩
  have := h.arr.set_ xs.length (.int .i64 x)
  rwa [arr12_set xs hx] at this
set_option maxHeartbeats 8000000 in
set_option maxRecDepth 100000 in
theorem r_decode_go (A : Option Addr) (n c : Nat) (r : List Int) (w : World) (hc : n ≤ c) (hm : c ≤ maxLen) (l : List Int) (hlr : l = 83 :: 84 :: 88 :: 49 :: r) (hz : Ints .u8 w A n l) (hl : l.length ≤ 262144) :
    Calls Try.prog 15 #[.slice A n c] w fun e w' => DecIs l w e w' := by
  have hn := hz.1
  have h4n : 4 ≤ n := by rw [← hn, hlr]; simp
  obtain ⟨g, off, rfl, hb, _⟩ := hz.2.2 (by omega)
  have hns : n ≤ 262144 := by omega
  obtain ⟨s, _, p2, p3⟩ := CodeSame.conv_str (c := c) (ints_four (hlr ▸ hz) (.cells Z16 29))
  have hs : s = ⟨#[83, 84, 88, 49]⟩ := (p2 (by omega)).trans rfl
  subst hs
  have hS1 : S1 w.heap.size w (((w.alloc (.cells Z16 29)).alloc (.cells #[.slice (some ⟨g, off, none⟩) n c, .int .i64 4, .bool false] 69)).alloc (.cells (arr12 []) 70)) l 4 false [] := by
    have z1 : Ints .u8 (((w.alloc (.cells Z16 29)).alloc (.cells #[.slice (some ⟨g, off, none⟩) n c, .int .i64 4, .bool false] 69)).alloc (.cells (arr12 []) 70)) (some ⟨g, off, none⟩) n l := CodeW.Ints.alloc (CodeW.Ints.alloc (CodeW.Ints.alloc hz _) _) _
    have e1 := size_new w (.cells Z16 29)
    have e2 := size_new (w.alloc (.cells Z16 29)) (.cells #[.slice (some ⟨g, off, none⟩) n c, .int .i64 4, .bool false] 69)
    have m0 := Mem.new w 29 Z16
    have m1 := Mem.new (w.alloc (.cells Z16 29)) 69 #[.slice (some ⟨g, off, none⟩) n c, .int .i64 4, .bool false]
    have m2 := Mem.new ((w.alloc (.cells Z16 29)).alloc (.cells #[.slice (some ⟨g, off, none⟩) n c, .int .i64 4, .bool false] 69)) 70 (arr12 [])
    rw [e1] at m1
    rw [e2, e1] at m2
    refine ⟨⟨by omega, by rw [size_new, e2, e1]; omega, hl, by rw [hlr]; simp, _, n, c, m1.alloc _, hc, hm, z1, fun _ a ha => by cases ha; exact hb⟩, (m0.alloc _).alloc _, m2, below_new3 w _ _ _⟩
  have HGO := Lib.hid (show Go (decP l) rS D1 12 [] false (l.drop 4) from .inr ⟨rfl, by rw [hlr]; exact decP_eq r⟩)
  have HS1 := Lib.hid hS1
  have HZ := Lib.hid hz
  have HN := Lib.hid hn
  have HLR := Lib.hid hlr
  obtain ⟨D, hD⟩ : ∃ D, decP l = D := ⟨_, rfl⟩
  rw [hD] at HGO
  have HD := Lib.hid hD
  unfold Z16 at p3
  clear hS1 hz hn hlr hD p2
  unfold maxLen at hm
  go_enter Try.func15, Try.ntmps15
  go_upto_region 7 with fail
  rw [show w.heap.size + 1 + 1 = w.heap.size + 2 from rfl]
  obtain ⟨w3, hw3⟩ : ∃ w3, w3 = (((w.alloc (.cells Z16 29)).alloc (.cells #[.slice (some ⟨g, off, none⟩) n c, .int .i64 4, .bool false] 69)).alloc (.cells (arr12 []) 70)) := ⟨_, rfl⟩
  have hw3' := hw3
  unfold Z16 at hw3'
  rw [show arr12 [] = #[.int .i64 0, .int .i64 0, .int .i64 0, .int .i64 0, .int .i64 0, .int .i64 0, .int .i64 0, .int .i64 0, .int .i64 0, .int .i64 0, .int .i64 0, .int .i64 0] from rfl] at hw3'
  rw [← hw3']
  rw [← hw3] at HS1
  clear hw3 hw3' p3
  go_wp2_with fail
  go_loopw [6] (fun i wr => ∃ (k j : Nat) (bad : Bool) (xs : List Int), k ≤ 12 ∧ xs.length = k ∧ i = .int .i64 k ∧ (∀ x ∈ xs, InI x) ∧ Go D rS D1 (12 - k) xs bad (l.drop j) ∧ S1 w.heap.size w wr l j bad xs) (fun i _ => 12 - (intOf i).toNat)
  case atStart => exact ⟨0, 4, false, [], by omega, rfl, rfl, by simp, HGO.out, HS1.out⟩
  case round =>
    obtain ⟨k, j, bad, xs, hk, hxl, rfl, hxi, hgo, hs1⟩ := hrel
    have HX := Lib.hid hxi
    have HG := Lib.hid hgo
    have HS := Lib.hid hs1
    have HXL := Lib.hid hxl
    clear hxi hgo hs1 HGO HS1
    by_cases hk12 : k < 12
    · clear hxl
      go_wp2_with fail
      refine (r_rsigned w.heap.size (w.heap.size + 1) l j bad _ HS.out.rq).mono ?_
      rintro e w5 ⟨v, rfl, hv, j', bad', _, hq5, hf5, h5⟩
      have hs5 := HS.out.read hq5 hf5
      have hg5 := HG.out
      rw [show 12 - k = (12 - (k + 1)) + 1 by omega] at hg5
      have hg6 := Lib.hid (hg5.step (x := v) (r' := l.drop j') (less h5))
      have harr := hs5.arr
      have hfz := harr.frozen k
      have hcell := harr.cell k
      have hst := hs5.store (by rw [HXL.out]; exact hk12) v
      rw [HXL.out] at hst
      have HST := Lib.hid hst
      clear hst
      have HV := Lib.hid hv
      have hxs : (arr12 xs)[k]? = some (.int .i64 0) := by
        unfold arr12
        rw [List.getElem?_toArray, List.getElem?_map, List.getElem?_append_right (by rw [HXL.out]; exact Nat.le_refl _), HXL.out, Nat.sub_self, List.getElem?_replicate, if_pos (by omega)]
        rfl
      rw [hxs] at hcell
      clear harr hs5 hg5 hq5 hf5 h5 hv hxs
      go_wp2_with fail
      go_roundw
      case rel => exact ⟨k + 1, j', bad', xs ++ [v], by omega, by rw [List.length_append, HXL.out]; rfl, by go_num, by
        intro x hx
        rcases List.mem_append.1 hx with h1 | h1
        · exact HX.out x h1
        · rw [List.mem_singleton.1 h1]; exact HV.out, hg6.out, HST.out⟩
      case measure => simp [intOf]; omega
    · obtain rfl : k = 12 := by omega
      have hs1 := HS.out
      have hxl' := HXL.out
      have hst := (show Go D rS D1 0 xs bad (l.drop j) from HG.out).done
      match xs, hxl', HX, hs1, hst with
      | [x0, x1, x2, x3, x4, x5, x6, x7, x8, x9, x10, x11], _, HX, hs1, hst =>
      have harr := hs1.arr
      rw [show arr12 [x0, x1, x2, x3, x4, x5, x6, x7, x8, x9, x10, x11] = #[.int .i64 x0, .int .i64 x1, .int .i64 x2, .int .i64 x3, .int .i64 x4, .int .i64 x5, .int .i64 x6, .int .i64 x7, .int .i64 x8, .int .i64 x9, .int .i64 x10, .int .i64 x11] from rfl] at harr
      have d0 := harr.cell 0
      have d1 := harr.cell 1
      have d2 := harr.cell 2
      have d3 := harr.cell 3
      have d4 := harr.cell 4
      have d5 := harr.cell 5
      have d6 := harr.cell 6
      have d7 := harr.cell 7
      have d8 := harr.cell 8
      have d9 := harr.cell 9
      have d10 := harr.cell 10
      have d11 := harr.cell 11
      simp at d0 d1 d2 d3 d4 d5 d6 d7 d8 d9 d10 d11
      have hlt := harr.lt
      have HST := Lib.hid hst
      have HS1 := Lib.hid hs1
      clear hs1 hst harr HG hxl' hxl HXL HS
      go_upto_region 13 with fail
      obtain ⟨w4, hw4⟩ : ∃ w4, w4 = wr.alloc (.cells #[.int .i64 x0, .int .i64 x1, .int .i64 x2, .int .i64 x3, .int .i64 x4, .int .i64 x5, .int .i64 x6, .int .i64 x7, .int .i64 x8, .int .i64 x9, .int .i64 x10, .int .i64 x11, .bool false, .slice none 0 0, .slice none 0 0, .slice none 0 0] 29) := ⟨_, rfl⟩
      rw [← hw4]
      have hs4 : Sx w.heap.size (w.heap.size + 1) wr.heap.size w w4 l j bad #[.int .i64 x0, .int .i64 x1, .int .i64 x2, .int .i64 x3, .int .i64 x4, .int .i64 x5, .int .i64 x6, .int .i64 x7, .int .i64 x8, .int .i64 x9, .int .i64 x10, .int .i64 x11, .bool false, .slice none 0 0, .slice none 0 0, .slice none 0 0] := by
        have h1 := HS1.out
        have hb4 : Below w.heap.size wr w4 := hw4 ▸ (Below.refl _ wr).alloc (Nat.le_of_lt h1.res.lt) _
        have h4 := h1.rq
        obtain ⟨_, _, _, _, A5, n5, c5, h5, _⟩ := h4
        exact ⟨CodeRF.Rq.below_ h1.rq hb4 (hw4 ▸ BlkW.heap_alloc_old wr _ _ h5.lt), hw4 ▸ h1.res.alloc _, hw4 ▸ Mem.new wr _ _, h1.bel.trans hb4, h1.res.lt, by have := h5.lt; omega⟩
      obtain ⟨g7, hg7⟩ : ∃ g7, g7 = wr.heap.size := ⟨_, rfl⟩
      rw [← hg7] at hs4 ⊢
      clear hw4 hg7 HS1 d0 d1 d2 d3 d4 d5 d6 d7 d8 d9 d10 d11 hlt
      have hrq := hs4.rq
      obtain ⟨_, _, _, hjl, A5, n5, c5, hm5, _⟩ := hrq
      have hat : w4.cell? ⟨w.heap.size + 1, 1, none⟩ = some (.int .i64 (j : Int)) := hm5.cell 1
      have hjn : j ≤ n := by rw [← HN.out]; exact hjl
      clear hm5
      have hfz := hs4.res.frozen
      by_cases hj : j = n
      · have hD' : decP l = none := by
          rw [HD.out]
          refine St.no HST.out ?_
          unfold D1
          rw [hj, ← HN.out, List.drop_length]
          rfl
        have hex := Lib.hid (hs4.bad_exit hl hD')
        have o0 : w4.cell? ⟨w.heap.size, 0, none⟩ = some _ := (hs4.res.cell 0).trans rfl
        have o1 : w4.cell? ⟨w.heap.size, 1, none⟩ = some _ := (hs4.res.cell 1).trans rfl
        have o2 : w4.cell? ⟨w.heap.size, 2, none⟩ = some _ := (hs4.res.cell 2).trans rfl
        have o3 : w4.cell? ⟨w.heap.size, 3, none⟩ = some _ := (hs4.res.cell 3).trans rfl
        have o4 : w4.cell? ⟨w.heap.size, 4, none⟩ = some _ := (hs4.res.cell 4).trans rfl
        have o5 : w4.cell? ⟨w.heap.size, 5, none⟩ = some _ := (hs4.res.cell 5).trans rfl
        have o6 : w4.cell? ⟨w.heap.size, 6, none⟩ = some _ := (hs4.res.cell 6).trans rfl
        have o7 : w4.cell? ⟨w.heap.size, 7, none⟩ = some _ := (hs4.res.cell 7).trans rfl
        have o8 : w4.cell? ⟨w.heap.size, 8, none⟩ = some _ := (hs4.res.cell 8).trans rfl
        have o9 : w4.cell? ⟨w.heap.size, 9, none⟩ = some _ := (hs4.res.cell 9).trans rfl
        have o10 : w4.cell? ⟨w.heap.size, 10, none⟩ = some _ := (hs4.res.cell 10).trans rfl
        have o11 : w4.cell? ⟨w.heap.size, 11, none⟩ = some _ := (hs4.res.cell 11).trans rfl
        have o12 : w4.cell? ⟨w.heap.size, 12, none⟩ = some _ := (hs4.res.cell 12).trans rfl
        have o13 : w4.cell? ⟨w.heap.size, 13, none⟩ = some _ := (hs4.res.cell 13).trans rfl
        have o14 : w4.cell? ⟨w.heap.size, 14, none⟩ = some _ := (hs4.res.cell 14).trans rfl
        have o15 : w4.cell? ⟨w.heap.size, 15, none⟩ = some _ := (hs4.res.cell 15).trans rfl
        subst hj
        clear hs4 hD'
        go_wp2_with fail
        exact bodyPost_ret (r_results hex.out.1 rfl rfl) rfl hex.out.2
      · have hj' : j < n := by omega
        have hjll : j < l.length := by rw [HN.out]; exact hj'
        obtain ⟨b0, hb0⟩ : ∃ b0, l[j]'hjll = b0 := ⟨_, rfl⟩
        have hdrop : l.drop j = b0 :: l.drop (j + 1) := by rw [← hb0]; exact drop_cons hjll
        have hbyte := Rq.byte hs4.rq b0 (hb0 ▸ List.getElem_mem hjll)
        obtain ⟨b1, b2⟩ := hbyte
        have hcb : w4.cell? ⟨g, off + j, none⟩ = some (.int .u8 b0) := by
          obtain ⟨_, _, hz3⟩ := HZ.out
          obtain ⟨b', off', e, _, hcc⟩ := hz3 (by omega)
          injection e with e
          injection e with e1 e2
          subst e1 e2
          rw [World.cell?_of_block (w := w) (hs4.bel.block g hb), hcc j hj', List.getD_eq_getElem?_getD, List.getElem?_eq_getElem hjll, hb0]
          rfl
        by_cases hb1' : 1 < b0
        · have hD' : decP l = none := by
            rw [HD.out]
            refine St.no HST.out ?_
            unfold D1
            rw [hdrop, rF, if_neg (by omega)]
            rfl
          have hex := Lib.hid (hs4.bad_exit hl hD')
          have o0 : w4.cell? ⟨w.heap.size, 0, none⟩ = some _ := (hs4.res.cell 0).trans rfl
          have o1 : w4.cell? ⟨w.heap.size, 1, none⟩ = some _ := (hs4.res.cell 1).trans rfl
          have o2 : w4.cell? ⟨w.heap.size, 2, none⟩ = some _ := (hs4.res.cell 2).trans rfl
          have o3 : w4.cell? ⟨w.heap.size, 3, none⟩ = some _ := (hs4.res.cell 3).trans rfl
          have o4 : w4.cell? ⟨w.heap.size, 4, none⟩ = some _ := (hs4.res.cell 4).trans rfl
          have o5 : w4.cell? ⟨w.heap.size, 5, none⟩ = some _ := (hs4.res.cell 5).trans rfl
          have o6 : w4.cell? ⟨w.heap.size, 6, none⟩ = some _ := (hs4.res.cell 6).trans rfl
          have o7 : w4.cell? ⟨w.heap.size, 7, none⟩ = some _ := (hs4.res.cell 7).trans rfl
          have o8 : w4.cell? ⟨w.heap.size, 8, none⟩ = some _ := (hs4.res.cell 8).trans rfl
          have o9 : w4.cell? ⟨w.heap.size, 9, none⟩ = some _ := (hs4.res.cell 9).trans rfl
          have o10 : w4.cell? ⟨w.heap.size, 10, none⟩ = some _ := (hs4.res.cell 10).trans rfl
          have o11 : w4.cell? ⟨w.heap.size, 11, none⟩ = some _ := (hs4.res.cell 11).trans rfl
          have o12 : w4.cell? ⟨w.heap.size, 12, none⟩ = some _ := (hs4.res.cell 12).trans rfl
          have o13 : w4.cell? ⟨w.heap.size, 13, none⟩ = some _ := (hs4.res.cell 13).trans rfl
          have o14 : w4.cell? ⟨w.heap.size, 14, none⟩ = some _ := (hs4.res.cell 14).trans rfl
          have o15 : w4.cell? ⟨w.heap.size, 15, none⟩ = some _ := (hs4.res.cell 15).trans rfl
          clear hs4 hD' hdrop
          go_wp2_with fail
          exact bodyPost_ret (r_results hex.out.1 rfl rfl) rfl hex.out.2
        · have hf7 := hs4.box.frozen 12
          obtain ⟨st, hbe⟩ : ∃ st, (b0 == 1) = st := ⟨_, rfl⟩
          have hbd : decide (b0 = 1) = st := hbe
          have hst2 : St D bad (D2 [x0, x1, x2, x3, x4, x5, x6, x7, x8, x9, x10, x11] st (l.drop (j + 1))) := St.to HST.out (by
            unfold D1
            rw [hdrop, rF, if_pos (by omega), hbd]
            rfl)
          have HST2 := Lib.hid hst2
          have hs5 := hs4.store 12 (.bool st)
          have hs6 : Sx w.heap.size (w.heap.size + 1) g7 w ((w4.setCell ⟨g7, 12, none⟩ (.bool st)).setCell ⟨w.heap.size + 1, 1, none⟩ (.int .i64 ((j + 1 : Nat) : Int))) l (j + 1) bad #[.int .i64 x0, .int .i64 x1, .int .i64 x2, .int .i64 x3, .int .i64 x4, .int .i64 x5, .int .i64 x6, .int .i64 x7, .int .i64 x8, .int .i64 x9, .int .i64 x10, .int .i64 x11, .bool st, .slice none 0 0, .slice none 0 0, .slice none 0 0] :=
            ⟨CodeRA.Rq.at_ hs5.rq (by omega), hs5.res.far (by simp) _, hs5.box.far (by show g7 ≠ w.heap.size + 1; have := hs5.ne; omega) _, hs5.bel.setCell (by simp) _, hs5.gt, hs5.ne⟩
          have HS6 := Lib.hid hs6
          have hfa : w4.frozen? ⟨w.heap.size + 1, 1, none⟩ = false := by
            obtain ⟨_, _, _, _, A6, n6, c6, hm6, _⟩ := hs4.rq
            exact hm6.frozen 1
          have hcs : w4.cell? ⟨g7, 12, none⟩ = some (.bool false) := (hs4.box.cell 12).trans rfl
          have hg7n := hs4.ne
          clear hbd hs5 hs6 hst2 HST hdrop hs4 hfz hj
          go_upto_region 17 with fail
          rw [show (j : Int) + 1 = ((j + 1 : Nat) : Int) from rfl]
          obtain ⟨w5, hw5⟩ : ∃ w5, w5 = ((w4.setCell ⟨g7, 12, none⟩ (.bool st)).setCell ⟨w.heap.size + 1, 1, none⟩ (.int .i64 ((j + 1 : Nat) : Int))) := ⟨_, rfl⟩
          rw [← hw5] at HS6 ⊢
          clear hw5 hf7 hfa hcs hcb hat
          go_wp2_with fail
          refine (r_length1 w.heap.size (w.heap.size + 1) l (j + 1) bad _ HS6.out.rq).mono ?_
          rintro e w6 ⟨v, rfl, hL⟩
          obtain ⟨m, j1, bad1, rfl, hm1, hq6, hf6, hgo6⟩ := Go.len (f := rU) (F := D3 [x0, x1, x2, x3, x4, x5, x6, x7, x8, x9, x10, x11] st) rU_one hL HST2.out
          have HGO6 := Lib.hid hgo6
          have HS7 := Lib.hid (HS6.out.read hq6 hf6)
          clear hL hq6 hf6 hgo6 HS6 HST2
          go_wp2_with fail
          go_loopw [8] (fun i wq => ∃ (k j : Nat) (bad : Bool) (ys : List Int) (Ai : Option Addr) (ci : Nat), i = .int .i64 k ∧ ys.length + k = m ∧ Go D rU (D3 [x0, x1, x2, x3, x4, x5, x6, x7, x8, x9, x10, x11] st) k ys bad (l.drop j) ∧ Sx w.heap.size (w.heap.size + 1) g7 w wq l j bad #[.int .i64 x0, .int .i64 x1, .int .i64 x2, .int .i64 x3, .int .i64 x4, .int .i64 x5, .int .i64 x6, .int .i64 x7, .int .i64 x8, .int .i64 x9, .int .i64 x10, .int .i64 x11, .bool st, .slice Ai ys.length ci, .slice none 0 0, .slice none 0 0] ∧ wq.ownsRow w.heap.size 46 1 (.slice Ai ys.length ci) ys.length (cU ys)) (fun i _ => (intOf i).toNat)
          case atStart => exact ⟨m, j1, bad1, [], none, 0, rfl, by simp, HGO6.out, HS7.out, World.ownsRow_nil _ _ _ _⟩
          case round =>
            obtain ⟨k, j2, bad2, ys, Ai, ci, rfl, hyk, hgo, hsx, hown⟩ := hrel
            have HG := Lib.hid hgo
            have HS := Lib.hid hsx
            have HO := Lib.hid hown
            clear hgo hsx hown HGO6 HS7
            rcases Nat.eq_zero_or_pos k with hk0 | hk0
            · obtain rfl : ys.length = m := by omega
              subst hk0
              have hD4 := Lib.hid (HG.out.done)
              clear HG hyk
              go_wp2_with fail
              refine (r_length1 w.heap.size (w.heap.size + 1) l j2 bad2 _ HS.out.rq).mono ?_
              rintro e w10 ⟨v, rfl, hL⟩
              obtain ⟨m3, j3, bad3, rfl, hm3, hq10, hf10, hgo10⟩ := Go.len (f := rP) (F := D4 [x0, x1, x2, x3, x4, x5, x6, x7, x8, x9, x10, x11] st ys) rP_one hL hD4.out
              have HGO10 := Lib.hid hgo10
              have HS10 := Lib.hid (HS.out.read hq10 hf10)
              have HO10 := Lib.hid (own_fr HO.out hf10 (by unfold TQ; decide))
              clear hL hq10 hf10 hgo10 HS HO hD4
              go_wp2_with fail
              go_loopw [9] (fun i wq => ∃ (k j : Nat) (bad : Bool) (ps : List (List (List Int))) (vs : List Value) (Ap : Option Addr) (cp : Nat), i = .int .i64 k ∧ ps.length + k = m3 ∧ Go D rP (D4 [x0, x1, x2, x3, x4, x5, x6, x7, x8, x9, x10, x11] st ys) k ps bad (l.drop j) ∧ Sx w.heap.size (w.heap.size + 1) g7 w wq l j bad #[.int .i64 x0, .int .i64 x1, .int .i64 x2, .int .i64 x3, .int .i64 x4, .int .i64 x5, .int .i64 x6, .int .i64 x7, .int .i64 x8, .int .i64 x9, .int .i64 x10, .int .i64 x11, .bool st, .slice Ai ys.length ci, .slice Ap ps.length cp, .slice none 0 0] ∧ wq.ownsRow w.heap.size 46 1 (.slice Ai ys.length ci) ys.length (cU ys) ∧ PV wq w.heap.size vs ps ∧ wq.ownsRow w.heap.size 53 1 (.slice Ap ps.length cp) ps.length vs) (fun i _ => (intOf i).toNat)
              case atStart => exact ⟨m3, j3, bad3, [], [], none, 0, rfl, by simp, HGO10.out, HS10.out, HO10.out, ⟨rfl, by simp⟩, World.ownsRow_nil _ _ _ _⟩
              case round =>
                obtain ⟨k, j4, bad4, ps, vs, Ap, cp, rfl, hpk, hgo, hsx, hown, hpv, hownp⟩ := hrel
                have HG := Lib.hid hgo
                have HS := Lib.hid hsx
                have HO := Lib.hid hown
                have HP := Lib.hid hpv
                have HOP := Lib.hid hownp
                clear hgo hsx hown hpv hownp HGO10 HS10 HO10
                rcases Nat.eq_zero_or_pos k with hk0 | hk0
                · obtain rfl : ps.length = m3 := by omega
                  subst hk0
                  have hD5 := Lib.hid (HG.out.done)
                  clear HG hpk
                  go_wp2_with fail
                  refine (r_length1 w.heap.size (w.heap.size + 1) l j4 bad4 _ HS.out.rq).mono ?_
                  rintro e w12 ⟨v, rfl, hL⟩
                  obtain ⟨m6, j5, bad5, rfl, hm6, hq12, hf12, hgo12⟩ := Go.len (f := rS) (F := D5 [x0, x1, x2, x3, x4, x5, x6, x7, x8, x9, x10, x11] st ys ps) rS_one hL hD5.out
                  have HGO12 := Lib.hid hgo12
                  have HS12 := Lib.hid (HS.out.read hq12 hf12)
                  have HO12 := Lib.hid (own_fr HO.out hf12 (by unfold TQ; decide))
                  have HP12 := Lib.hid (HP.out.fr hf12 (by unfold TQ; decide))
                  have HOP12 := Lib.hid (own_fr HOP.out hf12 (by unfold TQ; decide))
                  clear hL hq12 hf12 hgo12 HS HO HP HOP hD5
                  go_wp2_with fail
                  go_loopw [13] (fun i wq => ∃ (k j : Nat) (bad : Bool) (ks : List Int) (Ak : Option Addr) (ck : Nat), i = .int .i64 k ∧ ks.length + k = m6 ∧ Go D rS (D5 [x0, x1, x2, x3, x4, x5, x6, x7, x8, x9, x10, x11] st ys ps) k ks bad (l.drop j) ∧ Sx w.heap.size (w.heap.size + 1) g7 w wq l j bad #[.int .i64 x0, .int .i64 x1, .int .i64 x2, .int .i64 x3, .int .i64 x4, .int .i64 x5, .int .i64 x6, .int .i64 x7, .int .i64 x8, .int .i64 x9, .int .i64 x10, .int .i64 x11, .bool st, .slice Ai ys.length ci, .slice Ap ps.length cp, .slice Ak ks.length ck] ∧ wq.ownsRow w.heap.size 46 1 (.slice Ai ys.length ci) ys.length (cU ys) ∧ PV wq w.heap.size vs ps ∧ wq.ownsRow w.heap.size 53 1 (.slice Ap ps.length cp) ps.length vs ∧ wq.ownsRow w.heap.size 3 1 (.slice Ak ks.length ck) ks.length (cS ks)) (fun i _ => (intOf i).toNat)
                  case atStart => exact ⟨m6, j5, bad5, [], none, 0, rfl, by simp, HGO12.out, HS12.out, HO12.out, HP12.out, HOP12.out, World.ownsRow_nil _ _ _ _⟩
                  case round =>
                    obtain ⟨k, j6, bad6, ks, Ak, ck, rfl, hkk, hgo, hsx, hown, hpv, hownp, hownk⟩ := hrel
                    have HG := Lib.hid hgo
                    have HS := Lib.hid hsx
                    have HO := Lib.hid hown
                    have HP := Lib.hid hpv
                    have HOP := Lib.hid hownp
                    have HOK := Lib.hid hownk
                    clear hgo hsx hown hpv hownp hownk HGO12 HS12 HO12 HP12 HOP12
                    rcases Nat.eq_zero_or_pos k with hk0 | hk0
                    · subst hk0
                      have hfin := Lib.hid (HG.out.done)
                      clear HG hkk
                      have hfz := HS.out.res.frozen
                      have hrq := HS.out.rq
                      obtain ⟨_, _, _, hjl, A5, n5, c5, hm5, _⟩ := hrq
                      have hat : wr.cell? ⟨w.heap.size + 1, 1, none⟩ = some (.int .i64 (j6 : Int)) := hm5.cell 1
                      have hbd : wr.cell? ⟨w.heap.size + 1, 2, none⟩ = some (.bool bad6) := hm5.cell 2
                      have hjn : j6 ≤ n := by rw [← HN.out]; exact hjl
                      clear hm5 hjl
                      have o0 : wr.cell? ⟨w.heap.size, 0, none⟩ = some _ := (HS.out.res.cell 0).trans rfl
                      have o1 : wr.cell? ⟨w.heap.size, 1, none⟩ = some _ := (HS.out.res.cell 1).trans rfl
                      have o2 : wr.cell? ⟨w.heap.size, 2, none⟩ = some _ := (HS.out.res.cell 2).trans rfl
                      have o3 : wr.cell? ⟨w.heap.size, 3, none⟩ = some _ := (HS.out.res.cell 3).trans rfl
                      have o4 : wr.cell? ⟨w.heap.size, 4, none⟩ = some _ := (HS.out.res.cell 4).trans rfl
                      have o5 : wr.cell? ⟨w.heap.size, 5, none⟩ = some _ := (HS.out.res.cell 5).trans rfl
                      have o6 : wr.cell? ⟨w.heap.size, 6, none⟩ = some _ := (HS.out.res.cell 6).trans rfl
                      have o7 : wr.cell? ⟨w.heap.size, 7, none⟩ = some _ := (HS.out.res.cell 7).trans rfl
                      have o8 : wr.cell? ⟨w.heap.size, 8, none⟩ = some _ := (HS.out.res.cell 8).trans rfl
                      have o9 : wr.cell? ⟨w.heap.size, 9, none⟩ = some _ := (HS.out.res.cell 9).trans rfl
                      have o10 : wr.cell? ⟨w.heap.size, 10, none⟩ = some _ := (HS.out.res.cell 10).trans rfl
                      have o11 : wr.cell? ⟨w.heap.size, 11, none⟩ = some _ := (HS.out.res.cell 11).trans rfl
                      have o12 : wr.cell? ⟨w.heap.size, 12, none⟩ = some _ := (HS.out.res.cell 12).trans rfl
                      have o13 : wr.cell? ⟨w.heap.size, 13, none⟩ = some _ := (HS.out.res.cell 13).trans rfl
                      have o14 : wr.cell? ⟨w.heap.size, 14, none⟩ = some _ := (HS.out.res.cell 14).trans rfl
                      have o15 : wr.cell? ⟨w.heap.size, 15, none⟩ = some _ := (HS.out.res.cell 15).trans rfl
                      by_cases hbj : bad6 = false ∧ j6 = n
                      · obtain ⟨rfl, rfl⟩ := hbj
                        have hD' : decP l = some ⟨[x0, x1, x2, x3, x4, x5, x6, x7, x8, x9, x10, x11], st, ys, ps, ks⟩ := by
                          rw [HD.out]
                          rcases hfin.out with ⟨h1, _⟩ | ⟨_, h1⟩
                          · cases h1
                          · rw [h1, ← HN.out, List.drop_length]
                            rfl
                        have hex := Lib.hid (HS.out.final hl hD' HO.out HP.out HOP.out HOK.out)
                        have b0 := HS.out.box.cell 0
                        have b1 := HS.out.box.cell 1
                        have b2 := HS.out.box.cell 2
                        have b3 := HS.out.box.cell 3
                        have b4 := HS.out.box.cell 4
                        have b5 := HS.out.box.cell 5
                        have b6 := HS.out.box.cell 6
                        have b7 := HS.out.box.cell 7
                        have b8 := HS.out.box.cell 8
                        have b9 := HS.out.box.cell 9
                        have b10 := HS.out.box.cell 10
                        have b11 := HS.out.box.cell 11
                        have b12 := HS.out.box.cell 12
                        have b13 := HS.out.box.cell 13
                        have b14 := HS.out.box.cell 14
                        have b15 := HS.out.box.cell 15
                        simp at b0 b1 b2 b3 b4 b5 b6 b7 b8 b9 b10 b11 b12 b13 b14 b15
                        have hlt7 := HS.out.box.lt
                        clear hD' hfin HS HO HP HOP HOK
                        go_wp2_with fail
                        exact bodyPost_ret (r_results hex.out.1 rfl rfl) rfl hex.out.2
                      · have hD' : decP l = none := by
                          rw [HD.out]
                          rcases hfin.out with ⟨_, h1⟩ | ⟨h0, h1⟩
                          · exact h1
                          · rw [h1, D5, if_neg]
                            intro h2
                            have := congrArg List.length h2
                            rw [List.length_drop, HN.out] at this
                            simp at this
                            exact hbj ⟨h0, by omega⟩
                        have hex := Lib.hid (HS.out.bad_exit hl hD')
                        clear hD' hfin HS HO HP HOP HOK
                        cases bad6 with
                        | true =>
                          clear hbj
                          go_wp2_with fail
                          exact bodyPost_ret (r_results hex.out.1 rfl rfl) rfl hex.out.2
                        | false =>
                          have hjn' : j6 < n := by
                            rcases Nat.lt_or_ge j6 n with h | h
                            · exact h
                            · exact absurd ⟨rfl, by omega⟩ hbj
                          clear hbj
                          go_wp2_with fail
                          exact bodyPost_ret (r_results hex.out.1 rfl rfl) rfl hex.out.2
                    · obtain ⟨k, rfl⟩ : ∃ k', k = k' + 1 := ⟨k - 1, by omega⟩
                      have c15 := HS.out.box.cell 15
                      simp at c15
                      have hlt7 := HS.out.box.lt
                      have hks : ks.length ≤ 300000 := by omega
                      go_upto_region 38 with fail
                      go_region_law (first
                        | (go_simp; go_at_call 29; (with_reducible refine (r_rsigned w.heap.size (w.heap.size + 1) l j6 bad6 _ (by first | exact HS.out.rq | exact HS.out.drew.rq)).mono ?_); rintro e w8 ⟨v, rfl, hv, j7, bad7, _, hq8, hf8, h8⟩; have hs8 := HS.out.drew.read hq8 hf8; obtain ⟨A9, c9, w9, hrun, hown9, hs9, hk9⟩ := push_gen (te := 3) (ts := 27) (bytes := 8) Try.underlying27 CodeH.info_int rfl (by decide) (by decide) (by decide) hs8 (own_fr (own_drewN HOK.out 1) hf8 (by unfold TQ; decide)) hks (.int .i64 v) rfl; have c15' := hs8.box.cell 15; simp at c15'; have c9' := hs9.box.cell 15; simp at c9'; have hfz9 := hs9.box.frozen 15; have hlt8 := hs8.box.lt)
                        | (refine step_push rfl _ _ 27 rfl _ _ _ _ rfl rfl hrun ?_))
                      all_goals
                        have hl1 : (ks ++ [v]).length = ks.length + 1 := by simp
                        have hs11 : Sx w.heap.size (w.heap.size + 1) g7 w (w9.setCell ⟨g7, 15, none⟩ (.slice A9 (ks.length + 1) c9)) l j7 bad7 #[.int .i64 x0, .int .i64 x1, .int .i64 x2, .int .i64 x3, .int .i64 x4, .int .i64 x5, .int .i64 x6, .int .i64 x7, .int .i64 x8, .int .i64 x9, .int .i64 x10, .int .i64 x11, .bool st, .slice Ai ys.length ci, .slice Ap ps.length cp, .slice A9 (ks ++ [v]).length c9] := by
                          rw [hl1]
                          exact hs9.store 15 _
                        have ho11 : (w9.setCell ⟨g7, 15, none⟩ (.slice A9 (ks.length + 1) c9)).ownsRow w.heap.size 3 1 (.slice A9 (ks ++ [v]).length c9) (ks ++ [v]).length (cS (ks ++ [v])) := by
                          rw [hl1, show cS (ks ++ [v]) = cS ks ++ [.int .i64 v] by unfold cS; simp]
                          exact hs9.own_store hown9 (by decide) 15 _
                        have HS11 := Lib.hid hs11
                        have HK11 := Lib.hid ho11
                        have HO11 := Lib.hid (hs9.own_store (hk9 _ _ _ _ _ (by decide) (own_fr (own_drewN HO.out 1) hf8 (by unfold TQ; decide))) (by decide) 15 (.slice A9 (ks.length + 1) c9))
                        have HP11 := Lib.hid (hs9.pv_store (hk9.pv (by decide) ((show PV wr.drew w.heap.size vs ps from HP.out).fr hf8 (by unfold TQ; decide))) 15 (.slice A9 (ks.length + 1) c9))
                        have HOP11 := Lib.hid (hs9.own_store (hk9 _ _ _ _ _ (by decide) (own_fr (own_drewN HOP.out 1) hf8 (by unfold TQ; decide))) (by decide) 15 (.slice A9 (ks.length + 1) c9))
                        have HG11 := Lib.hid (HG.out.step (x := v) (r' := l.drop j7) (less h8))
                        have HL1 := Lib.hid hl1
                        clear hs11 ho11 hl1 hs9 hown9 hk9 hrun hs8 hq8 hf8 h8 c15' c9' hfz9 hlt8 hv
                        go_wp2_with fail
                        go_roundw
                        case rel => exact ⟨k, j7, bad7, ks ++ [v], A9, c9, by go_num, by rw [HL1.out]; omega, HG11.out, HS11.out, HO11.out, HP11.out, HOP11.out, HK11.out⟩
                        case measure => simp [intOf]
                · obtain ⟨k, rfl⟩ : ∃ k', k = k' + 1 := ⟨k - 1, by omega⟩
                  have hps : ps.length ≤ 300000 := by omega
                  have hgi := Lib.hid ((show Go D (rL rI) (D4 [x0, x1, x2, x3, x4, x5, x6, x7, x8, x9, x10, x11] st ys) (k + 1) ps bad4 (l.drop j4) from HG.out).innerL)
                  go_wp2_with fail
                  refine (r_length5 w.heap.size (w.heap.size + 1) l j4 bad4 _ HS.out.rq).mono ?_
                  rintro e w11 ⟨v, rfl, hL⟩
                  obtain ⟨FI, hFI⟩ : ∃ FI : List (List Int) → List Int → Option Scr, FI = fun q r' => (rN (rL rI) k r').bind fun i => D4 [x0, x1, x2, x3, x4, x5, x6, x7, x8, x9, x10, x11] st ys (ps ++ q :: i.1) i.2 := ⟨_, rfl⟩
                  obtain ⟨m5, j5, bad5, rfl, hm5, hq11, hf11, hgo11⟩ := Go.len (f := rI) (F := FI) rI_cost hL (by rw [hFI]; exact hgi.out)
                  have HFI := Lib.hid hFI
                  have HGO11 := Lib.hid hgo11
                  have HS12 := Lib.hid (HS.out.read hq11 hf11)
                  have HO12 := Lib.hid (own_fr HO.out hf11 (by unfold TQ; decide))
                  have HP12 := Lib.hid (HP.out.fr hf11 (by unfold TQ; decide))
                  have HOP12 := Lib.hid (own_fr HOP.out hf11 (by unfold TQ; decide))
                  have hB12 := Nat.le_of_lt HS12.out.size
                  have h412 : w.heap.size + 1 < w11.heap.size := by
                    obtain ⟨_, _, _, _, A6, n6, c6, hm6, _⟩ := HS12.out.rq
                    exact hm6.lt
                  clear hL hq11 hf11 hgo11 hFI hgi HS HO HP HOP HG
                  go_wp2_with fail
                  go_loopw [10, 11] (fun pv i wq => ∃ (k5 j : Nat) (bad : Bool) (q : List (List Int)) (Aq : Option Addr) (cq : Nat), pv = .slice Aq q.length cq ∧ i = .int .i64 k5 ∧ q.length + k5 = m5 ∧ Go D rI FI k5 q bad (l.drop j) ∧ Rq w.heap.size wq (w.heap.size + 1) l j bad ∧ Fr TQ w.heap.size w11 wq ∧ wq.ownsRow w11.heap.size 75 5 (.slice Aq q.length cq) q.length (cI q)) (fun _ i _ => (intOf i).toNat)
                  case atStart => exact ⟨m5, j5, bad5, [], none, 0, rfl, rfl, by simp, HGO11.out, HS12.out.rq, Fr.refl _ _ _, World.ownsRow_nil _ _ _ _⟩
                  case round =>
                    obtain ⟨k5, j6, bad6, q, Aq, cq, rfl, rfl, hqk, hgo, hrq, hfr, hown⟩ := hrel
                    have HG := Lib.hid hgo
                    have HR := Lib.hid hrq
                    have HF := Lib.hid hfr
                    have HO := Lib.hid hown
                    clear hgo hrq hfr hown HGO11
                    rcases Nat.eq_zero_or_pos k5 with hk0' | hk0'
                    · obtain rfl : q.length = m5 := by omega
                      subst hk0'
                      have hs40 := HS12.out.read HR.out HF.out
                      have ho40 := own_fr HO12.out HF.out (by unfold TQ; decide)
                      have hp40 := HP12.out.fr HF.out (by unfold TQ; decide)
                      have hop40 := own_fr HOP12.out HF.out (by unfold TQ; decide)
                      have hq40 := own_mono HO.out hB12
                      have c14 := hs40.box.cell 14
                      simp at c14
                      have hlt40 := hs40.box.lt
                      have HG40 := Lib.hid (show Go D rP (D4 [x0, x1, x2, x3, x4, x5, x6, x7, x8, x9, x10, x11] st ys) k (ps ++ [q]) bad6 (l.drop j6) from Go.outerL (by have := HG.out; rw [HFI.out] at this; exact this))
                      obtain ⟨A9, c9, w41, hrun, hown41, hs41, hk41⟩ := push_gen (te := 53) (ts := 26) (bytes := 24) Try.underlying26 CodeJ.info_prog rfl (by decide) (by decide) (by decide) hs40 hop40 hps (.slice Aq q.length cq) rfl
                      have c14' := hs41.box.cell 14
                      simp at c14'
                      have hfz41 := hs41.box.frozen 14
                      have hl1 : (ps ++ [q]).length = ps.length + 1 := by simp
                      have HRUN := Lib.hid hrun
                      have hs42 : Sx w.heap.size (w.heap.size + 1) g7 w (w41.setCell ⟨g7, 14, none⟩ (.slice A9 (ps.length + 1) c9)) l j6 bad6 #[.int .i64 x0, .int .i64 x1, .int .i64 x2, .int .i64 x3, .int .i64 x4, .int .i64 x5, .int .i64 x6, .int .i64 x7, .int .i64 x8, .int .i64 x9, .int .i64 x10, .int .i64 x11, .bool st, .slice Ai ys.length ci, .slice A9 (ps ++ [q]).length c9, .slice none 0 0] := by
                        rw [hl1]
                        exact hs41.store 14 _
                      have HS42 := Lib.hid hs42
                      have HO42 := Lib.hid (hs41.own_store (hk41 _ _ _ _ _ (by decide) ho40) (by decide) 14 (.slice A9 (ps.length + 1) c9))
                      have HP42 := Lib.hid (hs41.pv_store (hk41.pv (by decide) (PV.snoc hp40 hq40)) 14 (.slice A9 (ps.length + 1) c9))
                      have HOP42 := Lib.hid (show (w41.setCell ⟨g7, 14, none⟩ (.slice A9 (ps.length + 1) c9)).ownsRow w.heap.size 53 1 (.slice A9 (ps ++ [q]).length c9) (ps ++ [q]).length (vs ++ [.slice Aq q.length cq]) by
                        rw [hl1]
                        exact hs41.own_store hown41 (by decide) 14 _)
                      have HL1 := Lib.hid hl1
                      clear hs40 ho40 hp40 hop40 hq40 hrun hown41 hs41 hk41 hs42 hl1 HS12 HO12 HP12 HOP12 HG HR HF HO
                      go_wp2_with (at_builtin; refine wpList_append_run rfl _ _ _ rfl HRUN.out (by rfl) (by rfl) ?_)
                      go_roundw
                      case rel => exact ⟨k, j6, bad6, ps ++ [q], vs ++ [.slice Aq q.length cq], A9, c9, by go_num, by rw [HL1.out]; omega, HG40.out, HS42.out, HO42.out, HP42.out, HOP42.out⟩
                      case measure => simp [intOf]
                    · obtain ⟨k5, rfl⟩ : ∃ k', k5 = k' + 1 := ⟨k5 - 1, by omega⟩
                      have hql : q.length ≤ 300000 := by omega
                      have hgq := Lib.hid ((show Go D (rN rS 5) FI (k5 + 1) q bad6 (l.drop j6) from HG.out).inner)
                      go_wp2_with fail
                      refine (r_rsigned w.heap.size (w.heap.size + 1) l j6 bad6 _ HR.out).mono ?_
                      rintro e w20 ⟨v0, rfl, hv0, ja, bada, _, hqa, hfa, ha⟩
                      have ga := Lib.hid (hgq.out.step (x := v0) (r' := l.drop ja) (less ha))
                      have ix0 := Lib.hid (Ix.start (cs := #[.int .i64 v0, .int .i64 0, .int .i64 0, .int .i64 0, .int .i64 0]) hqa (HF.out.trans hfa) hB12)
                      have ho20 := Lib.hid (own_fr HO.out hfa (by unfold TQ; decide))
                      obtain ⟨g12, hg12⟩ : ∃ g12, g12 = w20.heap.size := ⟨_, rfl⟩
                      have hlt20 : ∀ g2, (Value.slice Aq q.length cq).ownBlock = some g2 → g2 < g12 := fun g2 h2 => hg12 ▸ (ho20.out.lt g2 h2).2
                      obtain ⟨w21, hw21⟩ : ∃ w21, w21 = w20.alloc (.cells #[.int .i64 v0, .int .i64 0, .int .i64 0, .int .i64 0, .int .i64 0] 75) := ⟨_, rfl⟩
                      have hoA := Lib.hid (ho20.out.alloc (.cells #[.int .i64 v0, .int .i64 0, .int .i64 0, .int .i64 0, .int .i64 0] 75))
                      rw [← hg12, ← hw21] at ix0
                      rw [← hw21] at hoA
                      have HW21 := Lib.hid hw21
                      have HG12 := Lib.hid hg12
                      have HL20 := Lib.hid hlt20
                      clear hg12 hw21 hqa hfa ha hgq HG HR HF HO ho20 hlt20 hv0
                      go_wp2_with fail
                      rw [← HW21.out, ← HG12.out]
                      refine (r_rsigned w.heap.size (w.heap.size + 1) l ja bada _ ix0.out.rq).mono ?_
                      rintro e y1 ⟨v1, rfl, hv, j1, b1, _, hq, hf, h5⟩
                      have g1 := Lib.hid (ga.out.step (x := v1) (r' := l.drop j1) (less h5))
                      have ixr := ix0.out.read hq hf
                      have cl := ixr.box.cell 1
                      simp at cl
                      have fz := ixr.box.frozen 1
                      have ho1 := Lib.hid (own_far (own_fr hoA.out hf (by unfold TQ; decide)) (a := ⟨g12, 1, none⟩) (fun e => absurd (HL20.out g12 e) (Nat.lt_irrefl _)) (.int .i64 v1))
                      have ix1 := Lib.hid (show Ix w.heap.size (w.heap.size + 1) g12 w11 (y1.setCell ⟨g12, 1, none⟩ (.int .i64 v1)) l j1 b1 #[.int .i64 v0, .int .i64 v1, .int .i64 0, .int .i64 0, .int .i64 0] from ixr.store 1 (.int .i64 v1))
                      clear hv hq hf h5 ixr ix0 hoA ga
                      go_wp2_with fail
                      refine (r_rsigned w.heap.size (w.heap.size + 1) l j1 b1 _ ix1.out.rq).mono ?_
                      rintro e y2 ⟨v2, rfl, hv, j2, b2, _, hq, hf, h5⟩
                      have g2 := Lib.hid (g1.out.step (x := v2) (r' := l.drop j2) (less h5))
                      have ixr := ix1.out.read hq hf
                      have cl := ixr.box.cell 2
                      simp at cl
                      have fz := ixr.box.frozen 2
                      have ho2 := Lib.hid (own_far (own_fr ho1.out hf (by unfold TQ; decide)) (a := ⟨g12, 2, none⟩) (fun e => absurd (HL20.out g12 e) (Nat.lt_irrefl _)) (.int .i64 v2))
                      have ix2 := Lib.hid (show Ix w.heap.size (w.heap.size + 1) g12 w11 (y2.setCell ⟨g12, 2, none⟩ (.int .i64 v2)) l j2 b2 #[.int .i64 v0, .int .i64 v1, .int .i64 v2, .int .i64 0, .int .i64 0] from ixr.store 2 (.int .i64 v2))
                      clear hv hq hf h5 ixr ix1 ho1 g1
                      go_wp2_with fail
                      refine (r_rsigned w.heap.size (w.heap.size + 1) l j2 b2 _ ix2.out.rq).mono ?_
                      rintro e y3 ⟨v3, rfl, hv, j3, b3, _, hq, hf, h5⟩
                      have g3 := Lib.hid (g2.out.step (x := v3) (r' := l.drop j3) (less h5))
                      have ixr := ix2.out.read hq hf
                      have cl := ixr.box.cell 3
                      simp at cl
                      have fz := ixr.box.frozen 3
                      have ho3 := Lib.hid (own_far (own_fr ho2.out hf (by unfold TQ; decide)) (a := ⟨g12, 3, none⟩) (fun e => absurd (HL20.out g12 e) (Nat.lt_irrefl _)) (.int .i64 v3))
                      have ix3 := Lib.hid (show Ix w.heap.size (w.heap.size + 1) g12 w11 (y3.setCell ⟨g12, 3, none⟩ (.int .i64 v3)) l j3 b3 #[.int .i64 v0, .int .i64 v1, .int .i64 v2, .int .i64 v3, .int .i64 0] from ixr.store 3 (.int .i64 v3))
                      clear hv hq hf h5 ixr ix2 ho2 g2
                      go_wp2_with fail
                      refine (r_rsigned w.heap.size (w.heap.size + 1) l j3 b3 _ ix3.out.rq).mono ?_
                      rintro e y4 ⟨v4, rfl, hv, j4', b4, _, hq, hf, h5⟩
                      have g4 := Lib.hid (g3.out.step (x := v4) (r' := l.drop j4') (less h5))
                      have ixr := ix3.out.read hq hf
                      have cl := ixr.box.cell 4
                      simp at cl
                      have fz := ixr.box.frozen 4
                      have ho4 := Lib.hid (own_far (own_fr ho3.out hf (by unfold TQ; decide)) (a := ⟨g12, 4, none⟩) (fun e => absurd (HL20.out g12 e) (Nat.lt_irrefl _)) (.int .i64 v4))
                      have ix4 := Lib.hid (show Ix w.heap.size (w.heap.size + 1) g12 w11 (y4.setCell ⟨g12, 4, none⟩ (.int .i64 v4)) l j4' b4 #[.int .i64 v0, .int .i64 v1, .int .i64 v2, .int .i64 v3, .int .i64 v4] from ixr.store 4 (.int .i64 v4))
                      clear hv hq hf h5 ixr ix3 ho3 g3
                      go_upto_region 33 with fail
                      obtain ⟨y5, hy5⟩ : ∃ y5, y5 = y4.setCell ⟨g12, 4, none⟩ (.int .i64 v4) := ⟨_, rfl⟩
                      rw [← hy5] at ix4 ho4 ⊢
                      clear hy5 cl fz
                      have d0 := ix4.out.box.cell 0
                      have d1 := ix4.out.box.cell 1
                      have d2 := ix4.out.box.cell 2
                      have d3 := ix4.out.box.cell 3
                      have d4 := ix4.out.box.cell 4
                      simp at d0 d1 d2 d3 d4
                      obtain ⟨A9, c9, y6, hrun, hown6, hrq6, hfr6⟩ := push_q ix4.out.rq ix4.out.fr hB12 h412 ho4.out hql v0 v1 v2 v3 v4
                      have HRUN := Lib.hid hrun
                      have HQ6 := Lib.hid hrq6
                      have HF6 := Lib.hid hfr6
                      have hl1 : (q ++ [[v0, v1, v2, v3, v4]]).length = q.length + 1 := by simp
                      have HO6 := Lib.hid (show y6.ownsRow w11.heap.size 75 5 (.slice A9 (q ++ [[v0, v1, v2, v3, v4]]).length c9) (q ++ [[v0, v1, v2, v3, v4]]).length (cI (q ++ [[v0, v1, v2, v3, v4]])) by
                        rw [hl1, show cI (q ++ [[v0, v1, v2, v3, v4]]) = cI q ++ [.int .i64 v0, .int .i64 v1, .int .i64 v2, .int .i64 v3, .int .i64 v4] by unfold cI; simp [iC]]
                        exact hown6)
                      have HG6 := Lib.hid (show Go D (rN rS 5) FI k5 (q ++ [[v0, v1, v2, v3, v4]]) b4 (l.drop j4') from g4.out.outer)
                      have HL1 := Lib.hid hl1
                      clear hrun hown6 hrq6 hfr6 hl1 ix4 ho4 g4
                      go_wp2_with (at_builtin; refine wpList_append_run rfl _ _ _ rfl HRUN.out (by rfl) (by rfl) ?_)
                      go_roundw
                      case rel => exact ⟨k5, j4', b4, q ++ [[v0, v1, v2, v3, v4]], A9, c9, by rw [HL1.out], by go_num, by rw [HL1.out]; omega, HG6.out, HQ6.out, HF6.out, HO6.out⟩
                      case measure => simp [intOf]
            · obtain ⟨k, rfl⟩ : ∃ k', k = k' + 1 := ⟨k - 1, by omega⟩
              have c13 := HS.out.box.cell 13
              simp at c13
              have hlt7 := HS.out.box.lt
              have hys : ys.length ≤ 300000 := by omega
              go_upto_region 20 with fail
              go_region_law (first
                | (go_simp; go_at_call 31; (with_reducible refine (r_runsigned w.heap.size (w.heap.size + 1) l j2 bad2 _ (by first | exact HS.out.rq | exact HS.out.drew.rq)).mono ?_); rintro e w8 ⟨v, rfl, hq⟩; obtain ⟨j3, bad3, _, hv, hq8, hf8, h8⟩ := hq; have hs8 := HS.out.drew.read hq8 hf8; obtain ⟨A9, c9, w9, hrun, hown9, hs9, _⟩ := push_gen (te := 46) (ts := 25) (bytes := 8) Try.underlying25 CodeH.info_u64 rfl (by decide) (by decide) (by decide) hs8 (own_fr (own_drewN HO.out 1) hf8 (by unfold TQ; decide)) hys (.int .u64 v) rfl; have c13' := hs8.box.cell 13; simp at c13'; have c9' := hs9.box.cell 13; simp at c9'; have hfz9 := hs9.box.frozen 13; have hlt8 := hs8.box.lt)
                | (refine step_push rfl _ _ 25 rfl _ _ _ _ rfl rfl hrun ?_))
              all_goals
                have hl1 : (ys ++ [v]).length = ys.length + 1 := by simp
                have hs11 : Sx w.heap.size (w.heap.size + 1) g7 w (w9.setCell ⟨g7, 13, none⟩ (.slice A9 (ys.length + 1) c9)) l j3 bad3 #[.int .i64 x0, .int .i64 x1, .int .i64 x2, .int .i64 x3, .int .i64 x4, .int .i64 x5, .int .i64 x6, .int .i64 x7, .int .i64 x8, .int .i64 x9, .int .i64 x10, .int .i64 x11, .bool st, .slice A9 (ys ++ [v]).length c9, .slice none 0 0, .slice none 0 0] := by
                  rw [hl1]
                  exact hs9.store 13 _
                have ho11 : (w9.setCell ⟨g7, 13, none⟩ (.slice A9 (ys.length + 1) c9)).ownsRow w.heap.size 46 1 (.slice A9 (ys ++ [v]).length c9) (ys ++ [v]).length (cU (ys ++ [v])) := by
                  rw [hl1, show cU (ys ++ [v]) = cU ys ++ [.int .u64 v] by unfold cU; simp]
                  exact hs9.own_store hown9 (by decide) 13 _
                have HS11 := Lib.hid hs11
                have HO11 := Lib.hid ho11
                have HG11 := Lib.hid (HG.out.step (x := v) (r' := l.drop j3) (less h8))
                have HL1 := Lib.hid hl1
                clear hs11 ho11 hl1 hs9 hown9 hrun hs8 hq8 hf8 h8 c13' c9' hfz9 hlt8 hv
                go_wp2_with fail
                go_roundw
                case rel => exact ⟨k, j3, bad3, ys ++ [v], A9, c9, by go_num, by rw [HL1.out]; omega, HG11.out, HS11.out, HO11.out⟩
                case measure => simp [intOf]
end Go.Proofs.Ytafidppjabdecaa.CodeRG
