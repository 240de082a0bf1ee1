/-
  The contract of Encode of package code.
-/
import Derived.Test.YtafidppjabdecaaCodeC
import Derived.Lib.SlBytesConst
import Derived.Deep.DeepCutAuto
namespace Go.Proofs.Ytafidppjabdecaa.CodeD
open Go.ChangeShapes Go.WideShapes Go.ChangeAt Go.RowKit
open PlainT BlkW LawFrame CodeS CodeW CodeA CodeB CodeC
set_option linter.unusedVariables false
set_option maxHeartbeats 1000000

theorem ints_low {T : List Nat} {k : IntKind} {w : World} {A : Option Addr} {n : Nat} {z : List Int} (h : Ints k w A n z) : 0 < n → Stay T w.heap.size w A := by
  intro hn
  obtain ⟨b, off, rfl, hb, _⟩ := h.2.2 hn
  exact Stay.low (by rintro a ha; cases ha; exact hb)
/-- What an encoding of the bytes l gives. -/
def EncIs (l : List Int) (w : World) (e : Ending) (w' : World) : Prop :=
  Below w.heap.size w w' ∧ ((262144 < l.length ∧ e = .returned (.tuple #[.slice none 0 0, .int .i64 3])) ∨
    (l.length ≤ 262144 ∧ ∃ A c, e = .returned (.tuple #[.slice A l.length c, .int .i64 0]) ∧ Rw w.heap.size w' (.slice A l.length c) l))
def QInv (B g : Nat) (w : World) (sp : List Int) (p : List (List (List Int))) (n : Nat) (i : Value) (wr : World) : Prop := ∃ k : Nat, k ≤ n ∧ i = .int .i64 k ∧ WS B wr g (sp ++ (p.take k).flatMap progB) ∧ Fr TW B w wr
theorem flag_ {w : World} {g : Nat} {t : TypeId} {cs : Array Value} (h : Mem w g t cs) (i : Nat) (v : Value) (hv : cs[i]? = some v) : w.cell? ⟨g, i, none⟩ = some v := (h.cell i).trans hv
theorem WS.start (w : World) (B : Nat) (hB : B ≤ w.heap.size) : WS B ((w.alloc (.cells #[.int .u8 83, .int .u8 84, .int .u8 88, .int .u8 49] 5 (4, 5))).alloc (.cells #[.slice (some ⟨w.heap.size, 0, none⟩) 4 4] 49)) (w.heap.size + 1) [83, 84, 88, 49] := by
  refine ⟨_, ⟨by omega, by simp; omega, .slice (some ⟨w.heap.size, 0, none⟩) 4 4, mem_new1 w _ _ _, .inr ⟨by simp, w.heap.size, #[.int .u8 83, .int .u8 84, .int .u8 88, .int .u8 49], (4, 5), rfl, hB, ?_, rfl, by simp [maxLen]⟩⟩, .inl rfl, by simp⟩
  rw [BlkW.heap_alloc_old _ _ _ (by rw [size_new]; omega)]
  exact BlkW.heap_alloc_new w _
theorem WS.row {B g : Nat} {w : World} {l : List Int} (h : WS B w g l) {A : Option Addr} {n c : Nat} (hm : Mem w g 49 #[.slice A n c]) (hl : n ≤ 262144) : Rw B w (.slice A n c) l := by
  obtain ⟨xs, ⟨h1, h2, v, h3, h4⟩, h5, h6⟩ := h
  have e := h3.symm.trans hm
  injection e with e
  injection e with e _
  have e2 : (#[v] : Array Value)[0]? = (#[Value.slice A n c] : Array Value)[0]? := by rw [e]
  simp at e2
  subst e2
  rcases h5 with rfl | h5
  · exact h4
  · obtain ⟨A', c', e, _⟩ := h4.slice
    injection e with _ e _
    omega
set_option maxHeartbeats 8000000 in
set_option maxRecDepth 100000 in
theorem a_encode (c0 c1 c2 c3 c4 c5 c6 c7 c8 c9 c10 c11 : Int) (s : Bool) (hi : ∀ x ∈ [c0, c1, c2, c3, c4, c5, c6, c7, c8, c9, c10, c11], InI x)
    (Ai Ap Ak : Option Addr) (ni ci np cp nk ck : Nat) (zi zk : List Int) (ps : List (List (List Int))) (w : World) (hzi : Ints .u64 w Ai ni zi) (hps : PPRow w w.heap.size Ap np ps) (hzk : Ints .i64 w Ak nk zk)
    (li : ni ≤ maxLen) (lp : np ≤ maxLen) (lk : nk ≤ maxLen) (l : List Int) (hl : bytesOf ⟨[c0, c1, c2, c3, c4, c5, c6, c7, c8, c9, c10, c11], s, zi, ps, zk⟩ = l) :
    Calls Try.prog 10 #[.agg #[.int .i64 c0, .int .i64 c1, .int .i64 c2, .int .i64 c3, .int .i64 c4, .int .i64 c5, .int .i64 c6, .int .i64 c7, .int .i64 c8, .int .i64 c9, .int .i64 c10, .int .i64 c11, .bool s, .slice Ai ni ci, .slice Ap np cp, .slice Ak nk ck]] w
      fun e w' => EncIs l w e w' := by
  have HL := Lib.hid hl
  clear hl
  have hl1 := Lib.hid hzi.1
  have hl2 := Lib.hid hps.1
  have hl3 := Lib.hid hzk.1
  have hsi := ints_low (T := TW) hzi
  have hsk := ints_low (T := TW) hzk
  have hb0 := Mem.new w 29 #[.int .i64 c0, .int .i64 c1, .int .i64 c2, .int .i64 c3, .int .i64 c4, .int .i64 c5, .int .i64 c6, .int .i64 c7, .int .i64 c8, .int .i64 c9, .int .i64 c10, .int .i64 c11, .bool s, .slice Ai ni ci, .slice Ap np cp, .slice Ak nk ck]
  have hf0 := fr_new (Nat.le_refl w.heap.size) (.cells #[.int .i64 c0, .int .i64 c1, .int .i64 c2, .int .i64 c3, .int .i64 c4, .int .i64 c5, .int .i64 c6, .int .i64 c7, .int .i64 c8, .int .i64 c9, .int .i64 c10, .int .i64 c11, .bool s, .slice Ai ni ci, .slice Ap np cp, .slice Ak nk ck] 29)
  have hsz := size_new w (.cells #[.int .i64 c0, .int .i64 c1, .int .i64 c2, .int .i64 c3, .int .i64 c4, .int .i64 c5, .int .i64 c6, .int .i64 c7, .int .i64 c8, .int .i64 c9, .int .i64 c10, .int .i64 c11, .bool s, .slice Ai ni ci, .slice Ap np cp, .slice Ak nk ck] 29)
  obtain ⟨w1, hw1⟩ : ∃ w1, w1 = w.alloc (.cells #[.int .i64 c0, .int .i64 c1, .int .i64 c2, .int .i64 c3, .int .i64 c4, .int .i64 c5, .int .i64 c6, .int .i64 c7, .int .i64 c8, .int .i64 c9, .int .i64 c10, .int .i64 c11, .bool s, .slice Ai ni ci, .slice Ap np cp, .slice Ak nk ck] 29) := ⟨_, rfl⟩
  rw [← hw1] at hb0 hf0 hsz
  have kc := Lib.run_convert_bytes_const (P := Try.prog) w1 31 5 #[.int .u8 83, .int .u8 84, .int .u8 88, .int .u8 49] 4 4 Try.underlying31 Try.underlying5
  have hst := WS.start w1 w.heap.size (by omega)
  have hf1 := hf0.trans ((fr_new (by omega) (.cells #[.int .u8 83, .int .u8 84, .int .u8 88, .int .u8 49] 5 (4, 5))).trans (fr_new (by rw [size_new]; omega) (.cells #[.slice (some ⟨w1.heap.size, 0, none⟩) 4 4] 49)))
  have hb1 := (hb0.alloc (.cells #[.int .u8 83, .int .u8 84, .int .u8 88, .int .u8 49] 5 (4, 5))).alloc (.cells #[.slice (some ⟨w1.heap.size, 0, none⟩) 4 4] 49)
  rw [hsz] at hst hf1 hb1 kc
  rw [hw1] at hst hf1 hb1 kc
  have HST := Lib.hid hst
  have HF1 := Lib.hid hf1
  have HB1 := Lib.hid hb1
  have HI := Lib.hid hi
  clear hst hf1 hb1 hb0 hf0 hsz hw1 hi
  clear w1
  have HZI := Lib.hid hzi
  have HZK := Lib.hid hzk
  have HPS := Lib.hid hps
  have HSI := Lib.hid hsi
  have HSK := Lib.hid hsk
  clear hzi hzk hps hsi hsk
  go_enter Try.func10, Try.ntmps10
  go_wp2_with fail
  refine (a_config w.heap.size (w.heap.size + 2) [83, 84, 88, 49] c0 c1 c2 c3 c4 c5 c6 c7 c8 c9 c10 c11 s HI.out (by simp) _ HST.out).mono ?_
  rintro e w2 ⟨rfl, h2, hf2⟩
  have hb2 := Mem.fr HB1.out hf2 (by unfold TW; decide)
  have d13 := flag_ hb2 13 _ rfl
  have d14 := flag_ hb2 14 _ rfl
  have d15 := flag_ hb2 15 _ rfl
  have F2 := Lib.hid (HF1.out.trans hf2)
  have HB2 := Lib.hid hb2
  clear hb2 hf2
  go_wp2_with fail
  refine (a_length w.heap.size _ _ ni _ h2 li).mono ?_
  rintro e w3 ⟨rfl, h3, hf3⟩
  have hb3 := Mem.fr HB2.out hf3 (by unfold TW; decide)
  have d13' := flag_ hb3 13 _ rfl
  have F3 := Lib.hid (F2.out.trans hf3)
  have HB3 := Lib.hid hb3
  have i3 := Ints.fr HZI.out HSI.out F3.out
  have s3 : 0 < ni → Stay TW w.heap.size w3 Ai := fun h0 => (HSI.out h0).fr F3.out
  clear hb3 hf3 h2
  go_wp2_with fail
  refine (a_unsigned w.heap.size _ _ zi Ai ni ci _ h3 i3 s3 li).mono ?_
  rintro e w4 ⟨rfl, h4, hf4⟩
  have hb4 := Mem.fr HB3.out hf4 (by unfold TW; decide)
  have d14' := flag_ hb4 14 _ rfl
  have F4 := Lib.hid (F3.out.trans hf4)
  have HB4 := Lib.hid hb4
  clear hb4 hf4 h3 i3 s3
  go_wp2_with fail
  refine (a_length w.heap.size _ _ np _ h4 lp).mono ?_
  rintro e w5 ⟨rfl, h5, hf5⟩
  have hb5 := Mem.fr HB4.out hf5 (by unfold TW; decide)
  have d14'' := flag_ hb5 14 _ rfl
  have F5 := Lib.hid (F4.out.trans hf5)
  have HB5 := Lib.hid hb5
  have HP5 := Lib.hid (PPRow.fr HPS.out F5.out)
  clear hb5 hf5 h4
  obtain ⟨sp, hsp⟩ : ∃ sp, sp = [83, 84, 88, 49] ++ [c0, c1, c2, c3, c4, c5, c6, c7, c8, c9, c10, c11].flatMap sB ++ [boolB s] ++ uB ni ++ zi.flatMap uB ++ uB np := ⟨_, rfl⟩
  rw [← hsp] at h5
  have HSP := Lib.hid hsp
  have H5 := Lib.hid h5
  clear hsp h5
  have hs0 : IntKind.i64.signed = true := rfl
  have lp2 := lp
  unfold maxLen at lp2
  go_wp2
  go_loopw [32] (fun i wr => QInv w.heap.size (w.heap.size + 2) w5 sp ps np i wr) (fun i _ => np - (intOf i).toNat)
  case atStart => exact ⟨0, Nat.zero_le _, rfl, by simpa using H5.out, Fr.refl _ _ _⟩
  case round =>
    obtain ⟨k, hk, rfl, hws, hfr⟩ := hrel
    have HWS := Lib.hid hws
    obtain ⟨hBs, Av, nv, cv, hm, hvl, hx⟩ := WS.parts hws
    by_cases hgo : k < np ∧ nv ≤ 262144
    · obtain ⟨hlt, hv1⟩ := hgo
      have hd : decide (262144 < nv) = false := by simp; omega
      obtain ⟨b, off, Ai', n', c', p, rfl, hb, hpk, hc, hl5, hl6, hp, hst⟩ := PPRow.at (PPRow.fr HP5.out hfr) hlt
      have hlp : n' ≤ maxLen := Nat.le_trans hl5 hl6
      have HK := Lib.hid hpk
      clear hws hx hpk
      go_wp2_with (first | (go_at_call 20; (with_reducible refine (a_full _ _ _ _ _ hm hvl false hd).mono ?_); rintro e w6 ⟨rfl, rfl⟩) | (go_at_call 21; refine (a_program w.heap.size _ _ p Ai' n' c' _ HWS.out hp (fun h0 => Stay.low (hst h0)) hlp).mono ?_; rintro e w7 ⟨rfl, h7, hf7⟩))
      have H7 := Lib.hid h7
      clear h7 hp
      go_wp2
      go_roundw
      case rel =>
        refine ⟨k + 1, by omega, by go_num, ?_, hfr.trans hf7⟩
        have := H7.out
        rw [take_flat progB ps k HK.out, ← List.append_assoc]
        exact this
      case measure => simp [intOf]; omega
    · have HE := Lib.hid (show WS w.heap.size wr (w.heap.size + 2) (sp ++ ps.flatMap progB) by
        rcases Nat.lt_or_ge k np with h | h
        · refine WS.full HWS.out hm (by omega) (fm_le _ _ _ _)
        · have := HWS.out
          rw [List.take_of_length_le (by rw [hl2.out]; omega)] at this
          exact this)
      have hb6 := Mem.fr HB5.out hfr (by unfold TW; decide)
      have e15 := flag_ hb6 15 _ rfl
      have F6 := Lib.hid (F5.out.trans hfr)
      have HB6 := Lib.hid hb6
      have ho : k < np ∧ decide (262144 < nv) = true ∨ ¬ k < np := by
        simp only [decide_eq_true_eq]
        omega
      clear hws hx hgo hb6
      have HLB := Lib.hid (show sp ++ ps.flatMap progB ++ uB nk ++ zk.flatMap sB = l by
        rw [HSP.out, ← HL.out]
        unfold bytesOf headB listB
        simp only [hl1.out, hl2.out, hl3.out, List.append_assoc])
      rcases ho with ⟨hlt, hd⟩ | hlt
      · obtain ⟨b, off, Ai', n', c', p, rfl, hb, hpk, hc, hl5, hl6, hp, hst⟩ := PPRow.at (PPRow.fr HP5.out hfr) hlt
        clear hpk hp hst
        go_wp2_with (go_at_call 20; (with_reducible refine (a_full _ _ _ _ _ hm hvl true hd).mono ?_); rintro e w6 ⟨rfl, rfl⟩)
        clear hc hlt hd hm
        refine (a_length w.heap.size _ _ nk _ HE.out lk).mono ?_
        rintro e w7 ⟨rfl, h7, hf7⟩
        have hb7 := Mem.fr HB6.out hf7 (by unfold TW; decide)
        have e15 := flag_ hb7 15 _ rfl
        have F7 := Lib.hid (F6.out.trans hf7)
        have HB7 := Lib.hid hb7
        have i7 := Ints.fr HZK.out HSK.out F7.out
        have s7 : 0 < nk → Stay TW w.heap.size w7 Ak := fun h0 => (HSK.out h0).fr F7.out
        clear hb7 hf7
        go_wp2_with fail
        refine (a_signed w.heap.size _ _ zk Ak nk ck _ h7 i7 s7 lk).mono ?_
        rintro e w8 ⟨rfl, h8, hf8⟩
        have F8 := Lib.hid (F7.out.trans hf8)
        clear h7 hf8 i7 s7
        rw [HLB.out] at h8
        have H8 := Lib.hid h8
        obtain ⟨_, A8, n8, c8, hm8, hl8, hx8⟩ := WS.parts h8
        have d80 := flag_ hm8 0 _ rfl
        clear h8 HLB HSP HL
        rcases hx8 with ⟨hx8, hx9⟩ | ⟨hx8, rfl⟩
        · have hd8 : decide (262144 < n8) = true := by simpa using hx8
          have HX := Lib.hid hx9
          clear hx9 hx8
          go_wp2_with (go_at_call 20; (with_reducible refine (a_full _ _ _ _ _ hm8 hl8 true hd8).mono ?_); rintro e w9 ⟨rfl, rfl⟩)
          go_ret2
          exact ⟨F8.out.below, .inl ⟨HX.out, rfl⟩⟩
        · have hd8 : decide (262144 < l.length) = false := by simp; omega
          have HX := Lib.hid hx8
          clear hx8
          go_wp2_with (go_at_call 20; (with_reducible refine (a_full _ _ _ _ _ hm8 hl8 false hd8).mono ?_); rintro e w9 ⟨rfl, rfl⟩)
          go_ret2
          refine ⟨F8.out.below, .inr ⟨HX.out, A8, c8, rfl, ?_⟩⟩
          exact WS.row H8.out hm8 HX.out
      · go_wp2_with fail
        clear hlt hm
        refine (a_length w.heap.size _ _ nk _ HE.out lk).mono ?_
        rintro e w7 ⟨rfl, h7, hf7⟩
        have hb7 := Mem.fr HB6.out hf7 (by unfold TW; decide)
        have e15 := flag_ hb7 15 _ rfl
        have F7 := Lib.hid (F6.out.trans hf7)
        have HB7 := Lib.hid hb7
        have i7 := Ints.fr HZK.out HSK.out F7.out
        have s7 : 0 < nk → Stay TW w.heap.size w7 Ak := fun h0 => (HSK.out h0).fr F7.out
        clear hb7 hf7
        go_wp2_with fail
        refine (a_signed w.heap.size _ _ zk Ak nk ck _ h7 i7 s7 lk).mono ?_
        rintro e w8 ⟨rfl, h8, hf8⟩
        have F8 := Lib.hid (F7.out.trans hf8)
        clear h7 hf8 i7 s7
        rw [HLB.out] at h8
        have H8 := Lib.hid h8
        obtain ⟨_, A8, n8, c8, hm8, hl8, hx8⟩ := WS.parts h8
        have d80 := flag_ hm8 0 _ rfl
        clear h8 HLB HSP HL
        rcases hx8 with ⟨hx8, hx9⟩ | ⟨hx8, rfl⟩
        · have hd8 : decide (262144 < n8) = true := by simpa using hx8
          have HX := Lib.hid hx9
          clear hx9 hx8
          go_wp2_with (go_at_call 20; (with_reducible refine (a_full _ _ _ _ _ hm8 hl8 true hd8).mono ?_); rintro e w9 ⟨rfl, rfl⟩)
          go_ret2
          exact ⟨F8.out.below, .inl ⟨HX.out, rfl⟩⟩
        · have hd8 : decide (262144 < l.length) = false := by simp; omega
          have HX := Lib.hid hx8
          clear hx8
          go_wp2_with (go_at_call 20; (with_reducible refine (a_full _ _ _ _ _ hm8 hl8 false hd8).mono ?_); rintro e w9 ⟨rfl, rfl⟩)
          go_ret2
          refine ⟨F8.out.below, .inr ⟨HX.out, A8, c8, rfl, ?_⟩⟩
          exact WS.row H8.out hm8 HX.out
end Go.Proofs.Ytafidppjabdecaa.CodeD
