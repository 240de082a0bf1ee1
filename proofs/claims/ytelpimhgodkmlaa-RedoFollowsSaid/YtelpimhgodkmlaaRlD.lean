/-
  New logs: the program's New, places and Clear; the reference's NewLog and Clear; the check that the laws of layer 13 run at their ends.
-/
import Derived.Test.YtelpimhgodkmlaaRlC
namespace Go.Proofs.Ytelpimhgodkmlaa.RlD
open Go.ChangeShapes Go.WideShapes Go.ChangeAt Go.RowKit
open PlainT BlkW CelS CelM CelV CelN LabD FreV FreI RsA RlU RlP RlA RlB RlC
set_option linter.unusedVariables false
set_option maxHeartbeats 1000000
set_option maxRecDepth 100000
/-- The size of an index. -/
def siz (n : Nat) : Nat := if n = 0 then 1 else if n ≤ 1 then 2 else if n ≤ 2 then 4 else if n ≤ 4 then 8 else if n ≤ 8 then 16 else if n ≤ 16 then 32 else 64
/-- A size on the way. -/
def Pow (s : Nat) : Prop := s = 1 ∨ s = 2 ∨ s = 4 ∨ s = 8 ∨ s = 16 ∨ s = 32 ∨ s = 64
theorem siz_gt (n : Nat) (h : n ≤ 32) : n < siz n ∧ siz n ≤ 64 := by
  unfold siz
  repeat' split
  all_goals omega
theorem siz_up {s n : Nat} (h : n ≤ 32) (hp : Pow s) (hs : s ≤ siz n) (hl : s < 2 * n) : Pow (2 * s) ∧ 2 * s ≤ siz n := by
  unfold siz at hs ⊢
  unfold Pow at hp ⊢
  rcases hp with rfl | rfl | rfl | rfl | rfl | rfl | rfl <;> (repeat' split) <;> omega
theorem siz_end {s n : Nat} (h : n ≤ 32) (hp : Pow s) (hs : s ≤ siz n) (hl : ¬ s < 2 * n) : s = siz n := by
  unfold siz at hs ⊢
  unfold Pow at hp
  rcases hp with rfl | rfl | rfl | rfl | rfl | rfl | rfl <;> (repeat' split at hs) <;> (repeat' split) <;> omega
theorem a_places (w : World) (n : Nat) (h : n ≤ 32) : Calls Try.prog 23 #[.int .i64 n] w fun e w' => e = .returned (.int .i64 (siz n)) ∧ w' = w := by
  have hnI : (n : Int) ≤ 32 := by omega
  go_enter Try.func23, Try.ntmps23
  go_wp2_with fail
  go_loop [3] (fun sv => ∃ s : Nat, sv = .int .i64 s ∧ Pow s ∧ s ≤ siz n ∧ s ≤ 64) (fun sv => 64 - (intOf sv).toNat)
  case atStart => exact ⟨1, rfl, .inl rfl, by have := (siz_gt n h).1; omega, by omega⟩
  case round =>
    obtain ⟨s, rfl, hp, hs, h64⟩ := hrel
    have hsI : (s : Int) ≤ 64 := by omega
    have HP := Lib.hid hp
    have HS := Lib.hid hs
    clear hp hs
    by_cases hlt : s < 2 * n
    · have hl : (s : Int) < 2 * n := by omega
      obtain ⟨u1, u2⟩ := siz_up h HP.out HS.out hlt
      have U1 := Lib.hid u1
      have U2 := Lib.hid u2
      have h1 : 1 ≤ s := by rcases HP.out with h | h | h | h | h | h | h <;> omega
      have hz := (siz_gt n h).2
      clear u1 u2
      go_wp2_with fail
      go_round
      case rel => exact ⟨2 * s, by go_num, U1.out, U2.out, by have := U2.out; omega⟩
      case measure => have := U2.out; simp [intOf]; omega
    · have hl : ¬ (s : Int) < 2 * n := by omega
      obtain rfl := siz_end h HP.out HS.out hlt
      clear hlt
      go_wp2_with fail
      go_ret
      exact ⟨rfl, rfl⟩
section
variable {w w' : World} {B B' : Nat} {t : TypeId} {cap : Nat} {L : LV} {ad vs ix : List Int}
theorem own_base {e : TypeId} {size n : Nat} {v : Value} {xs : List Value} (h : w.ownsRow B e size v n xs) (hb : B' ≤ B) : w.ownsRow B' e size v n xs :=
  ⟨h.1, h.2.imp id fun ⟨g, cap, cur, e, h1, h2⟩ => ⟨g, cap, cur, e, Nat.le_trans hb h1, h2⟩⟩
theorem LogIs.base (h : LogIs w B t cap L ad vs ix) (hb : B' ≤ B) : LogIs w B' t cap L ad vs ix :=
  ⟨⟨h.box, own_base h.ra hb, own_base h.rv hb, own_base h.ri hb, Nat.le_trans hb h.gB, h.tt, h.ap⟩, h.ok, h.c32⟩
/-- The first k places emptied. -/
def zx (ix : List Int) (k : Nat) : List Int := List.replicate k (-1) ++ ix.drop k
theorem zx_len {ix : List Int} {k : Nat} (h : k ≤ ix.length) : (zx ix k).length = ix.length := by
  unfold zx
  rw [List.length_append, List.length_replicate, List.length_drop]
  omega
theorem zx_set {ix : List Int} {k : Nat} (h : k < ix.length) : (zx ix k).set k (-1) = zx ix (k + 1) := by
  unfold zx
  rw [List.set_append_right _ _ (by simp), List.length_replicate, Nat.sub_self, List.drop_eq_getElem_cons h, List.set_cons_zero, List.replicate_succ', List.append_assoc]
  rfl
theorem zx_end {ix : List Int} : zx ix ix.length = List.replicate ix.length (-1) := by
  unfold zx
  rw [List.drop_length, List.append_nil]
/-- What Clear leaves. -/
def Clears (B : Nat) (t : TypeId) (cap : Nat) (L : LV) (n : Nat) (w : World) (e : Ending) (w' : World) : Prop :=
  e = .returned (.tuple #[]) ∧ ∃ L', LogR w' B t cap L' [] [] (List.replicate n (-1)) ∧ L'.g = L.g ∧ Fr (Blks L) w w'
theorem LogR.cut (h : LogR w B t cap L ad vs ix) {A A2 : Option Addr} {n c n2 c2 : Nat} (ha : L.va = .slice A n c) (hv : L.vv = .slice A2 n2 c2) :
    LogR ((w.setCell ⟨L.g, 1, none⟩ (.slice A 0 c)).setCell ⟨L.g, 2, none⟩ (.slice A2 0 c2)) B t cap { L with va := .slice A 0 c, vv := .slice A2 0 c2 } [] [] ix ∧ Fr (Blks L) w ((w.setCell ⟨L.g, 1, none⟩ (.slice A 0 c)).setCell ⟨L.g, 2, none⟩ (.slice A2 0 c2)) := by
  have h1 := h.ra
  have h2 := h.rv
  have o1 : (Value.slice A 0 c).ownBlock = L.va.ownBlock := by rw [ha]; cases A <;> rfl
  have o2 : (Value.slice A2 0 c2).ownBlock = L.vv.ownBlock := by rw [hv]; cases A2 <;> rfl
  rw [ha] at h1
  rw [hv] at h2
  have e1 : n = ad.length := by
    obtain ⟨_, _, e, _⟩ := own_slice h1
    injection e
  have e2 : n2 = vs.length := by
    obtain ⟨_, _, e, _⟩ := own_slice h2
    injection e
  subst e1 e2
  have hM := (h.box.set_ 1 (.slice A 0 c)).set_ 2 (.slice A2 0 c2)
  exact ⟨⟨by simpa using hM, own_far (own_far (own_cut h1) (by rw [o1]; exact h.oa) _) (by rw [o1]; exact h.oa) _, own_far (own_far (own_cutw h2) (by rw [o2]; exact h.ov) _) (by rw [o2]; exact h.ov) _, own_far (own_far h.ri h.oi _) h.oi _, h.gB, h.tt, fun y hy => h.ap y (by rw [← o1]; exact hy)⟩,
    ((Fr.refl _ w).set_ ⟨L.g, 1, none⟩ (.inl (.inl rfl)) _).set_ ⟨L.g, 2, none⟩ (.inl (.inl rfl)) _⟩
end
theorem a_clear (w : World) (B : Nat) (cap : Nat) (L : LV) (ad vs ix : List Int) (h : LogR w B TL cap L ad vs ix) (h0 : 0 < ix.length) (h64 : ix.length ≤ 64) (hB : B ≤ w.heap.size) : Calls Try.prog 22 #[.pointer (some ⟨L.g, 0, none⟩)] w fun e w' => Clears B TL cap L ix.length w e w' := by
  obtain ⟨g, va, vv, vi⟩ := L
  obtain ⟨gi, ci, hvi, _, _⟩ := own_ptri h.ri h0
  obtain ⟨pa, ca, hva⟩ := rdi_slice (rdi_own h.ra)
  obtain ⟨pv, cv, hvv⟩ := rdw_slice (rdw_own h.rv)
  obtain ⟨h2, hF⟩ := LogR.cut h hva hvv
  dsimp only at hva hvv hvi
  have b1 : w.cell? ⟨g, 1, none⟩ = some va := h.box.cell 1
  have b2 : w.cell? ⟨g, 2, none⟩ = some vv := h.box.cell 2
  have b3 : w.cell? ⟨g, 3, none⟩ = some vi := h.box.cell 3
  have z1 := h.box.frozen 1
  have z2 := h.box.frozen 2
  rw [hva] at b1
  rw [hvv] at b2
  rw [hvi] at b3
  have O1 : Hid ((Value.slice pa 0 ca).ownBlock = va.ownBlock) := Lib.hid (by rw [hva]; cases pa <;> rfl)
  have O2 : Hid ((Value.slice pv 0 cv).ownBlock = vv.ownBlock) := Lib.hid (by rw [hvv]; cases pv <;> rfl)
  obtain ⟨n, hn⟩ : ∃ n, ix.length = n := ⟨_, rfl⟩
  have HN := Lib.hid hn
  have HVI := Lib.hid hvi
  have H2 := Lib.hid h2
  have HF := Lib.hid hF
  rw [hn] at b3 h0 h64 ⊢
  dsimp only at z1 z2
  clear hn hvi hva hvv h h2 hF
  go_enter Try.func22, Try.ntmps22
  go_upto_region 3 with fail
  obtain ⟨W2, hW⟩ : ∃ W2, (w.setCell ⟨g, 1, none⟩ (.slice pa 0 ca)).setCell ⟨g, 2, none⟩ (.slice pv 0 cv) = W2 := ⟨_, rfl⟩
  have K2 : Hid (LogR W2 B TL cap ⟨g, .slice pa 0 ca, .slice pv 0 cv, vi⟩ [] [] ix ∧ Fr (Blks ⟨g, va, vv, vi⟩) w W2) := Lib.hid (by rw [← hW]; exact ⟨H2.out, HF.out⟩)
  rw [hW]
  have b3' : W2.cell? ⟨g, 3, none⟩ = some (.slice (some ⟨gi, 0, none⟩) n ci) := by
    have := K2.out.1.box.cell 3
    dsimp only at this
    rw [HVI.out, HN.out] at this
    exact this
  clear hW H2 HF b1 b2 b3 z1 z2
  go_wp2_with fail
  go_loopw [26] (fun kv wr => ∃ k : Nat, k ≤ n ∧ kv = .int .i64 k ∧ LogR wr B TL cap ⟨g, .slice pa 0 ca, .slice pv 0 cv, vi⟩ [] [] (zx ix k) ∧ Fr (Blks ⟨g, va, vv, vi⟩) w wr) (fun kv _ => n - (intOf kv).toNat)
  case atStart => exact ⟨0, by omega, rfl, K2.out.1, K2.out.2⟩
  case round =>
    obtain ⟨k, hk, rfl, hs, hf⟩ := hrel
    have HS := Lib.hid hs
    have HG := Lib.hid hf
    clear hs hf b3'
    by_cases hlt : k < n
    · have hlk : (k : Int) < n := by omega
      have b3' : wr.cell? ⟨g, 3, none⟩ = some (.slice (some ⟨gi, 0, none⟩) n ci) := by
        have := HS.out.box.cell 3
        dsimp only at this
        rw [HVI.out, HN.out] at this
        exact this
      have hzl := zx_len (ix := ix) (k := k) (by rw [HN.out]; exact hk)
      obtain ⟨g2, c2, hv2, _, hc2⟩ := own_ptri HS.out.ri (by rw [hzl, HN.out]; exact h0)
      dsimp only at hv2
      rw [HVI.out] at hv2
      injection hv2 with e1 e2 e3
      injection e1 with e1
      injection e1 with e1
      subst e1
      obtain ⟨y0, hy0⟩ : ∃ y0, (zx ix k)[k]? = some y0 := ⟨(zx ix k)[k]'(by rw [hzl, HN.out]; exact hlt), by rw [List.getElem?_eq_getElem]⟩
      have hck := hc2 k y0 hy0
      have c3 := hck.1
      have c4 := hck.2
      obtain ⟨hq, hfq⟩ := LogR.set_i HS.out HVI.out k (-1)
      rw [zx_set (by rw [HN.out]; exact hlt)] at hq
      have HQ := Lib.hid hq
      have HFQ := Lib.hid (HG.out.trans (hfq.wide fun y hy => by
        rcases hy with hy | hy | hy | hy
        · exact .inl hy
        · exact .inr (.inl (O1.out ▸ hy))
        · exact .inr (.inr (.inl (O2.out ▸ hy)))
        · exact .inr (.inr (.inr hy))))
      clear hck hc2 hq hfq hzl hy0 e2 e3
      go_wp2_with fail
      go_roundw
      case rel => exact ⟨k + 1, by omega, by go_num, HQ.out, HFQ.out⟩
      case measure => simp [intOf]; omega
    · obtain rfl : k = n := by omega
      have hend : zx ix k = List.replicate k (-1) := by rw [← HN.out, zx_end]
      have hfin := Lib.hid hend
      clear hlt hk hend
      go_wp2_with fail
      go_end0
      exact ⟨rfl, ⟨g, .slice pa 0 ca, .slice pv 0 cv, vi⟩, by rw [← hfin.out]; exact HS.out, rfl, HG.out⟩
theorem a_clear_nil (w : World) : Calls Try.prog 22 #[.pointer none] w fun e w' => e = .returned (.tuple #[]) ∧ w' = w := by
  go_enter Try.func22, Try.ntmps22
  go_wp2_with fail
  exact bodyPost_ret (results_none (by rfl) _ _ _) rfl ⟨rfl, rfl⟩
/-- What New leaves: a new log, in blocks of its own. -/
def Born (t : TypeId) (n : Nat) (w : World) (e : Ending) (w' : World) : Prop :=
  ∃ L, e = .returned (.pointer (some ⟨L.g, 0, none⟩)) ∧ LogIs w' w.heap.size t n L [] [] (List.replicate (siz n) (-1)) ∧ Below w.heap.size w w'
theorem a_new (w : World) (c : Int) (n : Nat) (hn : (max 0 (min c 32) : Int) = n) : Calls Try.prog 9 #[.int .i64 c] w fun e w' => Born TL n w e w' := by
  have h32 : n ≤ 32 := by omega
  have hsz := siz_gt n h32
  have hpl := fun w => a_places w n h32
  obtain ⟨s, hs⟩ : ∃ s, siz n = s := ⟨_, rfl⟩
  rw [hs] at hpl hsz
  have hmk := fun w => make_i w s (by omega)
  -- the log behind the box
  have hR : LogR ((w.alloc (.cells (IA (List.replicate s 0)) TI)).alloc (.cells #[.int .i64 n, .slice none 0 0, .slice none 0 0, .slice (some ⟨w.heap.size, 0, none⟩) s s] TL)) w.heap.size TL n ⟨w.heap.size + 1, .slice none 0 0, .slice none 0 0, .slice (some ⟨w.heap.size, 0, none⟩) s s⟩ [] [] (List.replicate s 0) := by
    refine ⟨?_, World.ownsRow_nil _ _ _ _, World.ownsRow_nil _ _ _ _, ?_, Nat.le_succ _, .inl rfl, fun y h => by simp [Value.ownBlock] at h⟩
    · have := Mem.new (w.alloc (.cells (IA (List.replicate s 0)) TI)) TL #[.int .i64 n, .slice none 0 0, .slice none 0 0, .slice (some ⟨w.heap.size, 0, none⟩) s s]
      rw [size_new] at this
      exact this
    · have := own_made (B := w.heap.size) ((Mem.new w TI (IA (List.replicate s 0))).alloc (.cells #[.int .i64 n, .slice none 0 0, .slice none 0 0, .slice (some ⟨w.heap.size, 0, none⟩) s s] TL)) (Nat.le_refl _) (by rw [List.length_replicate]; unfold maxLen; omega)
      rw [List.length_replicate] at this
      exact this
  have hB0 := below_new2 w (.cells (IA (List.replicate s 0)) TI) (.cells #[.int .i64 n, .slice none 0 0, .slice none 0 0, .slice (some ⟨w.heap.size, 0, none⟩) s s] TL)
  have hcl := a_clear _ _ _ _ _ _ _ hR (by rw [List.length_replicate]; omega) (by rw [List.length_replicate]; omega) (Nat.le_trans (Nat.le_of_lt (by rw [size_new, size_new]; omega)) (Nat.le_refl _))
  rw [List.length_replicate] at hcl
  have HR := Lib.hid hR
  have HB := Lib.hid hB0
  have HS := Lib.hid hs
  have hcs : (c < 0 ∧ n = 0) ∨ (0 ≤ c ∧ 32 < c ∧ n = 32) ∨ (0 ≤ c ∧ c ≤ 32 ∧ c = n) := by omega
  clear hR hB0 hs hn
  have fin : ∀ e w', Clears w.heap.size TL n ⟨w.heap.size + 1, .slice none 0 0, .slice none 0 0, .slice (some ⟨w.heap.size, 0, none⟩) s s⟩ s ((w.alloc (.cells (IA (List.replicate s 0)) TI)).alloc (.cells #[.int .i64 n, .slice none 0 0, .slice none 0 0, .slice (some ⟨w.heap.size, 0, none⟩) s s] TL)) e w' → e = .returned (.tuple #[]) ∧ Born TL n w (.returned (.pointer (some ⟨w.heap.size + 1, 0, none⟩))) w' := by
    rintro e w' ⟨he, L', h1, h2, h3⟩
    refine ⟨he, L', by rw [h2], ⟨?_, ?_, h32⟩, ?_⟩
    · rw [HS.out]
      exact h1
    · rw [HS.out]
      exact Ok.fresh hsz.1 hsz.2
    · exact h3.after HB.out (fun y hy => by
        rcases hy with hy | hy | hy | hy
        · subst hy
          exact Nat.le_succ _
        · simp [Value.ownBlock] at hy
        · simp [Value.ownBlock] at hy
        · simp [Value.ownBlock] at hy
          omega) (Nat.le_refl _)
  have FIN := Lib.hid fin
  clear fin HB HR
  rcases hcs with ⟨h1, rfl⟩ | ⟨h1, h2, rfl⟩ | ⟨h1, h2, rfl⟩
  all_goals go_enter Try.func9, Try.ntmps9
  all_goals go_wp2_with (first
    | (go_at_call 23; refine (hpl _).mono ?_; rintro e w2 ⟨rfl, rfl⟩)
    | (go_at_call 22; refine hcl.mono ?_; rintro e w3 hcc; obtain ⟨rfl, hbb⟩ := FIN.out _ _ hcc))
  all_goals go_ret
  all_goals exact hbb
end Go.Proofs.Ytelpimhgodkmlaa.RlD
