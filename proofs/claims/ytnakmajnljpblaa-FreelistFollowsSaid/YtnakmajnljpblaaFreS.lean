/-
  Start of any valid configuration for any number of threads; the machines of package freelist at work on the lists: what a step leaves; images, the list of a class out of an image.
-/
import Derived.Test.YtnakmajnljpblaaLabP
import Derived.Test.YtnakmajnljpblaaFreB
import Derived.Test.YtnakmajnljpblaaFreC
namespace Go.Proofs.Ytnakmajnljpblaa.LabT
open Go.ChangeShapes Go.WideShapes Go.ChangeAt Go.RowKit
open PlainT BlkW LayS LayA LayH LayK LayP CelS CelM CelP CelV CelN CelO CelF CelG CelB LabD LabP
set_option linter.unusedVariables false
set_option maxHeartbeats 1000000

/-- What Start returns. -/
def BegunN (w0 : World) (q : Cfg) (nt : Nat) (A : Int → List Int) (lo hi b rb : Nat) (w : World) : Prop :=
  (∃ n no : Nat, blkV q = n ∧ q.o = no ∧ A = A0 q n no nt (gen q.w.toNat)) ∧ Duo lo hi w b rb q A A ∧ w0.heap.size ≤ lo ∧ Below w0.heap.size w0 w
set_option maxRecDepth 100000 in
theorem l_startn (q : Cfg) (HMd : Hid (Valid q)) (nt : Nat) (t1 : 1 ≤ nt) (t2 : nt ≤ 16) (w : World) : Calls Try.prog 11 #[cfgV q, .int .i64 nt] w fun e w' => ∃ A lo hi b rb, e = .returned (.tuple #[pairV b rb, .bool true]) ∧ BegunN w q nt A lo hi b rb w' := by
  have HB2 := Lib.hid (below_new2 w (.cells (cells q) TC) (.cells #[.pointer none, .pointer none] TP))
  have HC := Lib.hid (Mem.alloc (Mem.new w TC (cells q)) (.cells #[.pointer none, .pointer none] TP))
  have HP := Lib.hid (mem_new1 w (.cells (cells q) TC) TP #[.pointer none, .pointer none])
  obtain ⟨m, hm⟩ : ∃ m : Nat, q.w = m := ⟨q.w.toNat, by have := HMd.out; unfold Valid at this; omega⟩
  have HMQ := Lib.hid hm
  have hm1 : m ≤ 64 := by have := HMd.out; unfold Valid at this; omega
  have hm0 : 1 ≤ m := by have := HMd.out; unfold Valid at this; omega
  clear hm
  go_enter Try.func11, Try.ntmps11
  go_upto_region 2 with (fail)
  obtain ⟨cb, hcb⟩ : ∃ cb, w.heap.size = cb := ⟨_, rfl⟩
  rw [hcb] at HC HP ⊢
  obtain ⟨W, hW⟩ : ∃ W, (w.alloc (.cells (cells q) TC)).alloc (.cells #[.pointer none, .pointer none] TP) = W := ⟨_, rfl⟩
  rw [hW] at HC HB2 HP
  first | rw [hW] | skip
  clear hW
  go_wp2_with fail
  go_loopw [6, 7] (fun sv iv wr => ∃ (i : Nat) (A : Option Addr) (c : Nat), i ≤ m ∧ iv = .int .i64 i ∧ sv = .slice A i c ∧ OwnU wr w.heap.size (.slice A i c) (gen i) ∧ Mem wr cb TC (cells q) ∧ Mem wr (cb + 1) TP #[.pointer none, .pointer none] ∧ Below w.heap.size w wr) (fun _ iv _ => m - (intOf iv).toNat)
  case atStart => exact ⟨0, none, 0, by omega, rfl, rfl, World.ownsRow_nil _ _ _ _, HC.out, HP.out, HB2.out⟩
  case round =>
    clear HC HB2 HP
    obtain ⟨i, A, c, hi, rfl, rfl, hown, hcf, hpf, hbel⟩ := hrel
    have HO := Lib.hid hown
    have HC := Lib.hid hcf
    have HP := Lib.hid hpf
    have HB := Lib.hid hbel
    clear hown hcf hbel hpf
    obtain ⟨d0, d1, d2, d3, d4, d5, d6, d7, d8, d9, d10, d11, d12⟩ := box_cells HC.out
    by_cases hlt : i < m
    · have hlq : (i : Int) < q.w := by rw [HMQ.out]; omega
      have hw1 : IntKind.i64.wrap (10 * (i : Int)) = 10 * i := IntWalk.i64_in _ (by omega)
      have hw2 : IntKind.i64.wrap (10 * (i : Int) + 1) = 10 * i + 1 := IntWalk.i64_in _ (by omega)
      have hw3 : IntKind.u64.wrap (10 * (i : Int) + 1) = 10 * i + 1 := IntWalk.u64_in _ (by omega)
      obtain ⟨A2, c2, w2, hrun, hown2, hbel2, hfar2, _⟩ := push_u HB.out.size HO.out (by rw [gen_len]; omega) (10 * (i : Int) + 1)
      rw [gen_len] at hrun hown2
      have HO2 := Lib.hid hown2
      have HB3 := Lib.hid (HB.out.trans hbel2)
      have HC2 := Lib.hid ((hfar2 cb HC.out.lt (own_ne_mem HO.out HC.out (by decide))).trans HC.out)
      have HP2 := Lib.hid ((hfar2 (cb + 1) HP.out.lt (own_ne_mem HO.out HP.out (by decide))).trans HP.out)
      clear hown2 hbel2 hfar2
      go_wp2_with (at_builtin; refine wpList_append_run rfl _ _ _ rfl hrun (by rfl) (by rfl) ?_)
      go_roundw
      case rel => exact ⟨i + 1, A2, c2, by have h := hlq; rw [HMQ.out] at h; omega, by go_num, rfl, by rw [gen_step]; exact HO2.out, HC2.out, HP2.out, HB3.out⟩
      case measure => simp [intOf]; omega
    · obtain rfl : i = m := by omega
      have hge : q.w ≤ (i : Int) := Int.le_of_eq HMQ.out
      obtain ⟨hsrc, hsb⟩ := own_src HO.out (by rw [gen_len]; omega)
      clear hlt hi
      have HSrc := Lib.hid hsrc
      have HSb := Lib.hid hsb
      clear hsrc hsb
      have HV := HMd.out
      obtain ⟨n, hn⟩ : ∃ n : Nat, blkV q = n := ⟨(blkV q).toNat, by have := blk_in q; omega⟩
      obtain ⟨no, hno⟩ : ∃ no : Nat, q.o = no := ⟨q.o.toNat, by have := HMd.out; unfold Valid at this; omega⟩
      have hnew : Calls Try.prog 63 #[cfgV q, .int .i64 nt, .slice A i c] wr _ := a_new q HV n no nt hn hno t1 t2 wr (.slice A i c) (gen i) HSrc.out (by rw [gen_len]; exact HMQ.out.symm) HSb.out
      have HN := Lib.hid hn
      have HNO := Lib.hid hno
      have HVV := Lib.hid HV
      clear HV hn hno
      go_upto_region 7 with (go_at_call 63; refine hnew.mono ?_; rintro e w4 ⟨b, rfl, hI, hB4⟩)
      have HI := Lib.hid hI
      have HB4 := Lib.hid hB4
      have HC4 := Lib.hid (HC.out.below hB4 HC.out.lt)
      have HP4 := Lib.hid (HP.out.below hB4 HP.out.lt)
      have hS4 : Src w4 (.slice A i c) (gen i) := HSrc.out.of_blocks fun g hg => hB4.block g (HSb.out g hg)
      have href : Calls Try.prog 64 #[cfgV q, .int .i64 nt, .slice A i c] w4 _ := r_new q HVV.out n no nt HN.out HNO.out t2 w4 (.slice A i c) (gen i) hS4 (by rw [gen_len]; exact HMQ.out.symm) (fun g hg => Nat.lt_of_lt_of_le (HSb.out g hg) hB4.size)
      have hcw := HP.out.lt
      clear hI hB4 hS4 hnew hge d0 d1 d2 d3 d4 d5 d6 d7 d8 d9 d10 d11 d12
      obtain ⟨d0, d1, d2, d3, d4, d5, d6, d7, d8, d9, d10, d11, d12⟩ := box_cells HC4.out
      go_wp2_with (go_at_call 64; refine href.mono ?_; rintro e w5 ⟨rb, rfl, hR, hB5⟩; have HR := Lib.hid hR; have HB5 := Lib.hid hB5; have MP := HP4.out.below hB5 HP4.out.lt; have p0 := Mem.cell MP 0; have p1 := Mem.cell MP 1; have pf := Mem.frozen MP; clear hR hB5)
      have MP : Mem w5 (cb + 1) TP #[.pointer none, .pointer none] := HP4.out.below HB5.out HP4.out.lt
      have hgi : gen q.w.toNat = gen i := by rw [HMQ.out]; rfl
      have MQ := (MP.set_ 0 (.pointer (some ⟨b, 0, none⟩))).set_ 1 (.pointer (some ⟨rb, 0, none⟩))
      have e0 := MQ.cell 0
      have e1 := MQ.cell 1
      simp at e0 e1
      have HD : Duo wr.heap.size w5.heap.size w5 b rb q (A0 q n no nt (gen q.w.toNat)) (A0 q n no nt (gen q.w.toNat)) := ⟨_, _, by rw [hgi]; exact HI.out.below HB5.out, by rw [hgi]; exact HR.out, Nat.le_refl _, A0_out q n no nt _⟩
      have HBF := below_trans2 (below_trans2 HB.out HB4.out) HB5.out
      refine bodyPost_ret (v := .tuple #[pairV b rb, .bool true]) ((results_cell_tmp rfl _ _ _).trans (by simp [go_sem, e0, e1])) rfl ⟨_, _, _, b, rb, rfl, ⟨n, no, HN.out, HNO.out, rfl⟩, (HD.set_ ⟨cb + 1, 0, none⟩ (.inl hcw) _).set_ ⟨cb + 1, 1, none⟩ (.inl hcw) _, HB.out.size, (HBF.setCell (by show w.heap.size ≤ cb + 1; omega) _).setCell (by show w.heap.size ≤ cb + 1; omega) _⟩
end Go.Proofs.Ytnakmajnljpblaa.LabT

namespace Go.Proofs.Ytnakmajnljpblaa.FreS
open Go.ChangeShapes Go.WideShapes Go.ChangeAt Go.RowKit
open PlainT BlkW LayS LayA CelS CelM CelP CelV CelN CelO CelI CelY CelL LabD LabR LabP LabS LabT FreP FreQ FreV FreC FreA FreB
set_option linter.unusedVariables false
set_option maxHeartbeats 1000000

abbrev TP1 : TypeId := 114
abbrev TP2 : TypeId := 112
abbrev oBox (st : Nat) (c x n bl : Int) : Array Value := #[.int .i64 st, .int .i64 c, .int .u64 x, .int .i64 n, .int .i64 bl]
abbrev uBox (st : Nat) (c b x : Int) : Array Value := #[.int .i64 st, .int .i64 c, .int .i64 b, .int .u64 x]
/-- The heads' words. -/
def hds (T : Nat → Int) (L : Nat → List Nat) : List Int := [T 0 * 65536 + hd (L 0), T 1 * 65536 + hd (L 1), T 2 * 65536 + hd (L 2), T 3 * 65536 + hd (L 3)]
theorem hds_len (T : Nat → Int) (L : Nat → List Nat) : (hds T L).length = 4 := rfl
theorem hds_at {T : Nat → Int} {L : Nat → List Nat} {c : Nat} (h : c ≤ 3) : (hds T L).getD c 0 = T c * 65536 + hd (L c) := by
  rcases four h with rfl | rfl | rfl | rfl <;> rfl
theorem hds_up {T : Nat → Int} {L : Nat → List Nat} {c : Nat} (h : c ≤ 3) (t : Int) (l : List Nat) : (hds T L).set c (t * 65536 + hd l) = hds (up T c t) (up L c l) := by
  rcases four h with rfl | rfl | rfl | rfl <;> simp [hds, up]
/-- The configuration of the statements. -/
def hq : Cfg := ⟨20, 4, 1, 3, 2, 1, 0, 1, 1, 0, 0, 0, false⟩
theorem hq_valid : Valid hq := by unfold Valid hq; decide
theorem l_heap (w : World) : Calls Try.prog 12 #[] w fun e w' => e = .returned (cfgV hq) ∧ Below w.heap.size w w' := by
  have HB := Lib.hid (below_new w (.cells (cells hq) TC))
  go_enter Try.func12, Try.ntmps12
  go_wp2
  refine bodyPost_ret (v := cfgV hq) (by simp [results, Try.results12, go_sem, hq]) rfl ⟨rfl, HB.out⟩
def T0 : Nat → Int := fun _ => 0
def L0 : Nat → List Nat := fun c => if c = 0 then [0, 1, 2] else if c = 1 then [3, 4] else if c = 2 then [5] else []
def N0 : List Int := [2, 3, 0, 5, 0, 0]
theorem inv0 : Inv 0 T0 L0 N0 [] (fun _ => .idle) := by
  refine ⟨fun c _ => ⟨by simp [T0], by simp [T0]⟩, rfl, fun j hj => ?_, fun c hc => ?_, fun c hc b hb => ?_, fun b hb => by simp at hb, fun b hb => ?_, fun t _ => trivial⟩
  · have : j = 0 ∨ j = 1 ∨ j = 2 ∨ j = 3 ∨ j = 4 ∨ j = 5 := by omega
    rcases this with rfl | rfl | rfl | rfl | rfl | rfl <;> decide
  · rcases four hc with rfl | rfl | rfl | rfl
    · exact ⟨rfl, rfl, rfl, trivial⟩
    · exact ⟨rfl, rfl, trivial⟩
    · exact ⟨rfl, trivial⟩
    · trivial
  · rcases four hc with rfl | rfl | rfl | rfl <;> simp [L0] at hb
    · rcases hb with rfl | rfl | rfl <;> decide
    · rcases hb with rfl | rfl <;> decide
    · subst hb
      decide
  · have : b = 0 ∨ b = 1 ∨ b = 2 ∨ b = 3 ∨ b = 4 ∨ b = 5 := by omega
    rcases this with rfl | rfl | rfl | rfl | rfl | rfl <;> decide
/-- The cells of both machines: the program's lists are T, L, N; where tw is set the reference's cells are the same. -/
structure Fl (w0 : World) (lo hi b rb : Nat) (tw : Bool) (T : Nat → Int) (L : Nat → List Nat) (N : List Int) (w : World) : Prop where
  duo : ∃ A B, Duo lo hi w b rb hq A B ∧ A 7 = hds T L ∧ A 8 = N ∧ (A 3).length = 1 ∧ (A 4).length = 1 ∧ (A 5).length = 1 ∧ (tw = true → B = A)
  lo : w0.heap.size ≤ lo
  old : Below w0.heap.size w0 w
section
variable {w0 w w' : World} {lo hi b rb g : Nat} {tw : Bool} {T : Nat → Int} {L : Nat → List Nat} {N : List Int} {P : Nat → Prop}
theorem Fl.fr (h : Fl w0 lo hi b rb tw T L N w) (k : Fr P w w') (hp : ∀ g, lo ≤ g → g < hi → ¬ P g) (h0 : ∀ g, P g → w0.heap.size ≤ g) : Fl w0 lo hi b rb tw T L N w' := by
  obtain ⟨A, B, hd, h4⟩ := h.duo
  exact ⟨⟨A, B, hd.fr k hp, h4⟩, h.lo, k.after h.old h0 (Nat.le_refl _)⟩
theorem Fl.below (h : Fl w0 lo hi b rb tw T L N w) (k : Below w.heap.size w w') : Fl w0 lo hi b rb tw T L N w' :=
  h.fr (P := fun _ => False) (Fr.of_below k) (fun _ _ _ => id) (fun _ => False.elim)
theorem Fl.alloc (h : Fl w0 lo hi b rb tw T L N w) (o : Obj) : Fl w0 lo hi b rb tw T L N (w.alloc o) := h.below (below_new w o)
theorem Fl.drewN (h : Fl w0 lo hi b rb tw T L N w) (n : Nat) : Fl w0 lo hi b rb tw T L N (w.drewN n) := h.below (below_drewN (Below.refl _ w) n)
theorem Fl.top (h : Fl w0 lo hi b rb tw T L N w) : hi ≤ w.heap.size := by
  obtain ⟨A, B, hd, _⟩ := h.duo
  exact hd.top
theorem Fl.le (h : Fl w0 lo hi b rb tw T L N w) : lo ≤ hi := by
  obtain ⟨A, B, ⟨m1, m2, h1, h2, hm, _⟩, _⟩ := h.duo
  have := Is.le h1
  have := RefIs.le h2
  omega
theorem fl_begun {nt : Nat} {A : Int → List Int} (h : BegunN w0 hq nt A lo hi b rb w) : Fl w0 lo hi b rb true T0 L0 N0 w := by
  obtain ⟨⟨n, no, hn, hno, rfl⟩, hd, hlo, hb⟩ := h
  have e6 : n = 6 := by
    have : blkV hq = 6 := by decide
    omega
  subst e6
  exact ⟨⟨_, _, hd, by show hdL hq 6 = _; decide, by show nxL hq 6 = _; decide, rfl, rfl, rfl, fun _ => rfl⟩, hlo, hb⟩
end
abbrev TQ1 : TypeId := 54
abbrev TQ2 : TypeId := 57
abbrev roBox (st : Nat) (c x y bl : Int) : Array Value := #[.int .i64 c, .int .i64 st, .int .u64 x, .int .u64 y, .int .i64 bl]
abbrev ruBox (st : Nat) (c b x : Int) : Array Value := #[.int .i64 c, .int .i64 b, .int .i64 st, .int .u64 x]
/-- The cells other than heads and links stay. -/
def Rest (A A' : Int → List Int) : Prop := A' 3 = A 3 ∧ A' 4 = A 4 ∧ A' 5 = A 5
theorem rest_upd {A : Int → List Int} {k : Int} {i : Nat} {v : Int} (h : k = 7 ∨ k = 8) : Rest A (upd A k i v) := by
  rcases h with rfl | rfl <;> exact ⟨upd_ne (by decide), upd_ne (by decide), upd_ne (by decide)⟩
/-- What a pop's step leaves. -/
def PopOut (K : Int) (T : Nat → Int) (L : Nat → List Nat) (N : List Int) (held : List Nat) (p : Nat → Th) (t g c : Nat) (k1 k2 k3 : Int) (d : Bool) (st' : Nat) (x' n' bl' : Int) (T' : Nat → Int) (L' : Nat → List Nat) (held' : List Nat) (p' : Nat → Th) : Prop :=
  (st' ≤ 2 ∧ bl' = -1 ∧ T' = T ∧ L' = L ∧ held' = held ∧ p' = up p t (.pop g st' c x' n') ∧ ¬ (k1 = 3 ∧ d = true)) ∨
  (st' = 3 ∧ bl' = -1 ∧ L c = [] ∧ T' = T ∧ L' = L ∧ held' = held ∧ p' = up p t .idle ∧ ¬ (k1 = 3 ∧ d = true)) ∨
  (st' = 3 ∧ ∃ l, ∃ blk : Nat, L c = blk :: l ∧ bl' = blk ∧ T' = up T c (T c + 1) ∧ L' = up L c l ∧ held' = held ++ [blk] ∧ p' = up p t .idle ∧ k1 = 3 ∧ k2 = 7 ∧ k3 = c ∧ d = true)
theorem hd_nil {l : List Nat} (h : hd l < 1) : l = [] := by
  cases l with
  | nil => rfl
  | cons b l => simp only [hd] at h; omega
theorem pop_plan {lo hi b rb g y : Nat} {A : Int → List Int} {K : Int} {T : Nat → Int} {L : Nat → List Nat} {N : List Int} {held : List Nat} {p : Nat → Th} {t st c : Nat} {x n : Int} (h7 : A 7 = hds T L) (h8 : A 8 = N) (hI : Inv K T L N held p) (hK : K ≤ 1000000) (ht : t ≤ 3) (hp : p t = .pop g st c x n) (hst : st ≤ 2) (hg : g < lo ∨ hi ≤ g) (hy : y < lo ∨ hi ≤ y) :
    ∃ (A' : Int → List Int) (k1 k2 k3 k4 k5 : Int) (d : Bool) (st' : Nat) (x' n' bl' : Int) (T' : Nat → Int) (L' : Nat → List Nat) (held' : List Nat) (p' : Nat → Th),
      (∀ B W, Duo lo hi W b rb hq A B → Mem W g TP1 (oBox st c x n (-1)) → Calls Try.prog 20 #[.pointer (some ⟨g, 0, none⟩), .pointer (some ⟨b, 0, none⟩)] W fun e w' => e = .returned (accV k1 k2 k3 k4 k5 d) ∧ Duo lo hi w' b rb hq A' B ∧ Mem w' g TP1 (oBox st' c x' n' bl') ∧ Fr (PG lo hi g) W w') ∧
      (∀ W, Duo lo hi W b rb hq A' A → Mem W y TQ1 (roBox st c x (n + 1) (-1)) → Calls Try.prog 21 #[.pointer (some ⟨y, 0, none⟩), .pointer (some ⟨rb, 0, none⟩)] W fun e w' => e = .returned (accV k1 k2 k3 k4 k5 d) ∧ Duo lo hi w' b rb hq A' A' ∧ Mem w' y TQ1 (roBox st' c x' (n' + 1) bl') ∧ Fr (PG lo hi y) W w') ∧
      A' 7 = hds T' L' ∧ A' 8 = N ∧ Rest A A' ∧ Inv (K + 1) T' L' N held' p' ∧ PopOut K T L N held p t g c k1 k2 k3 d st' x' n' bl' T' L' held' p' := by
  have hok := hI.ok t ht
  rw [hp] at hok
  obtain ⟨hc, hs⟩ := hok
  have hl7 : c < (A 7).length := by rw [h7, hds_len]; omega
  have hz7 : (A 7).getD c 0 = T c * 65536 + hd (L c) := by rw [h7, hds_at hc]
  have hT := hI.T0 c hc
  have hd6 := hI.top hc
  have hsame : upd A 7 c (T c * 65536 + hd (L c)) = A := upd_same hl7 hz7
  have hR : Rest A A := ⟨rfl, rfl, rfl⟩
  obtain ⟨z, hz⟩ : ∃ z, T c * 65536 + hd (L c) = z := ⟨_, rfl⟩
  rw [hz] at hz7 hsame
  have z0 : 0 ≤ z ∧ z ≤ 18446744073709551615 := by omega
  have hzm : z % 65536 = hd (L c) := by omega
  rcases Nat.lt_or_ge st 1 with h0 | h0
  · obtain rfl : st = 0 := by omega
    by_cases htop : 1 ≤ hd (L c)
    · refine ⟨A, 1, 7, c, z, z, true, 1, z, n, -1, T, L, held, _, fun B W hW hM => ?_, fun W hW hM => ?_, h7, h8, hR, (hz ▸ hI.load ht hp htop g n).more (by omega), .inl ⟨by omega, rfl, rfl, rfl, rfl, rfl, by omega⟩⟩
      · exact p_load_some hW hg x n (-1) c hl7 z hz7 z0.1 z0.2 (by simp; omega) hM
      · exact q_load_some hW hy x (n + 1) (-1) c hl7 z hz7 z0.1 z0.2 (by simp; omega) hM
    · have hnil := hd_nil (by omega : hd (L c) < 1)
      have hi0 : Inv K T L N held (up p t .idle) := hI.turn ht (by rw [hp]; rfl) trivial
      refine ⟨A, 1, 7, c, z, z, true, 3, z, n, -1, T, L, held, _, fun B W hW hM => ?_, fun W hW hM => ?_, h7, h8, hR, hi0.more (by omega), .inr (.inl ⟨rfl, rfl, hnil, rfl, rfl, rfl, rfl, by omega⟩)⟩
      · exact p_load_none hW hg x n (-1) c hl7 z hz7 z0.1 z0.2 (by simp; omega) hM
      · exact q_load_none hW hy x (n + 1) (-1) c hl7 z hz7 z0.1 z0.2 (by simp; omega) hM
  · have hseen : Seen T L c x := by
      rcases hs with h | ⟨_, h, _⟩ | ⟨_, h, _⟩
      · omega
      · exact h
      · exact h
    have hx0 : 0 ≤ x ∧ x ≤ 18446744073709551615 := by
      obtain ⟨a, q, hx, q0, q6, a0, aT, _⟩ := hseen
      omega
    rcases Nat.lt_or_ge st 2 with h1 | h1
    · obtain rfl : st = 1 := by omega
      obtain ⟨j, hj6, hj, y0, y6, hI'⟩ := hI.next ht hp g
      have hl8 : j < (A 8).length := by rw [h8, hI.len]; omega
      have hy8 : (A 8).getD j 0 = N.getD j 0 := by rw [h8]
      refine ⟨A, 1, 8, j, N.getD j 0, N.getD j 0, true, 2, x, N.getD j 0 - 1, -1, T, L, held, _, fun B W hW hM => ?_, fun W hW hM => ?_, h7, h8, hR, hI'.more (by omega), .inl ⟨by omega, rfl, rfl, rfl, rfl, rfl, by omega⟩⟩
      · exact p_next hW hg c x n (-1) hx0.1 hx0.2 j hj hl8 _ hy8 y0 (by omega) hM
      · rw [Int.sub_add_cancel]
        exact q_next hW hy c x (n + 1) (-1) hx0.1 hx0.2 j hj hl8 _ hy8 y0 (by omega) hM
    · obtain rfl : st = 2 := by omega
      have hn : 0 ≤ n + 1 ∧ n + 1 ≤ 6 := by
        rcases hs with h | ⟨h, _⟩ | ⟨_, _, _, h3, h4, _⟩
        · omega
        · omega
        · exact ⟨h3, h4⟩
      by_cases he : z = x
      · subst he
        obtain ⟨l, blk, hl, hb, hnl, hI'⟩ := hI.take ht hp hz.symm
        have hv : (z / 65536 + 1) % 281474976710656 * 65536 + (n + 1) = (T c + 1) * 65536 + hd l := by
          rw [← hnl]
          have : z / 65536 = T c := by omega
          rw [this]
          omega
        refine ⟨upd A 7 c ((T c + 1) * 65536 + hd l), 3, 7, c, z, (T c + 1) * 65536 + hd l, true, 3, z, n, blk, _, _, _, _, fun B W hW hM => ?_, fun W hW hM => ?_, ?_, by rw [upd_ne (by decide)]; exact h8, rest_upd (.inl rfl), hI', .inr (.inr ⟨rfl, l, blk, hl, rfl, rfl, rfl, rfl, rfl, rfl, rfl, rfl, rfl⟩)⟩
        · have := p_take_yes hW hg z n (-1) hx0.1 hx0.2 (by omega) (by omega) c hl7 hz7 _ hv hM
          rw [hb] at this
          exact this
        · have := q_take_yes hW hy z (n + 1) (-1) hx0.1 hx0.2 n (by omega) (by omega) (by omega) c hl7 hz7 _ hv hM
          rw [hb] at this
          exact this
        · rw [← hds_up hc, ← h7]
          simp [upd]
      · have hI' : Inv K T L N held (up p t (.pop g 0 c x n)) := hI.turn ht (by rw [hp]; rfl) ⟨hc, .inl (.inl rfl)⟩
        refine ⟨A, 3, 7, c, z, z, false, 0, x, n, -1, T, L, held, _, fun B W hW hM => ?_, fun W hW hM => ?_, h7, h8, hR, hI'.more (by omega), .inl ⟨by omega, rfl, rfl, rfl, rfl, rfl, by simp⟩⟩
        · have := p_take_no hW hg x n (-1) hx0.1 hx0.2 (by omega) (by omega) c hl7 z hz7 _ rfl he hM
          rw [hsame] at this
          exact this
        · have := q_take_no hW hy x (n + 1) (-1) hx0.1 hx0.2 n (by omega) (by omega) (by omega) c hl7 z hz7 _ rfl he hM
          rw [hsame] at this
          exact this
/-- What a push's step leaves. -/
def PushOut (T : Nat → Int) (L : Nat → List Nat) (N : List Int) (p : Nat → Th) (t g c bk : Nat) (st' : Nat) (x' : Int) (T' : Nat → Int) (L' : Nat → List Nat) (N' : List Int) (p' : Nat → Th) : Prop :=
  (st' ≤ 2 ∧ T' = T ∧ L' = L ∧ p' = up p t (.push g st' c bk x')) ∨ (st' = 3 ∧ N' = N ∧ T' = up T c (T c + 1) ∧ L' = up L c (bk :: L c) ∧ p' = up p t .idle)
theorem push_plan {lo hi b rb g y : Nat} {A : Int → List Int} {K : Int} {T : Nat → Int} {L : Nat → List Nat} {N : List Int} {held : List Nat} {p : Nat → Th} {t st c bk : Nat} {x : Int} (h7 : A 7 = hds T L) (h8 : A 8 = N) (hI : Inv K T L N held p) (hK : K ≤ 1000000) (ht : t ≤ 3) (hp : p t = .push g st c bk x) (hst : st ≤ 2) (hg : g < lo ∨ hi ≤ g) (hy : y < lo ∨ hi ≤ y) :
    ∃ (A' : Int → List Int) (k1 k2 k3 k4 k5 : Int) (d : Bool) (st' : Nat) (x' : Int) (T' : Nat → Int) (L' : Nat → List Nat) (N' : List Int) (p' : Nat → Th),
      (∀ B W, Duo lo hi W b rb hq A B → Mem W g TP2 (uBox st c bk x) → Calls Try.prog 24 #[.pointer (some ⟨g, 0, none⟩), .pointer (some ⟨b, 0, none⟩)] W fun e w' => e = .returned (accV k1 k2 k3 k4 k5 d) ∧ Duo lo hi w' b rb hq A' B ∧ Mem w' g TP2 (uBox st' c bk x') ∧ Fr (PG lo hi g) W w') ∧
      (∀ W, Duo lo hi W b rb hq A' A → Mem W y TQ2 (ruBox st c bk x) → Calls Try.prog 25 #[.pointer (some ⟨y, 0, none⟩), .pointer (some ⟨rb, 0, none⟩)] W fun e w' => e = .returned (accV k1 k2 k3 k4 k5 d) ∧ Duo lo hi w' b rb hq A' A' ∧ Mem w' y TQ2 (ruBox st' c bk x') ∧ Fr (PG lo hi y) W w') ∧
      A' 7 = hds T' L' ∧ A' 8 = N' ∧ Rest A A' ∧ Inv (K + 1) T' L' N' held p' ∧ PushOut T L N p t g c bk st' x' T' L' N' p' := by
  have hok := hI.ok t ht
  rw [hp] at hok
  obtain ⟨hcb, hb6, hs⟩ := hok
  have hc : c ≤ 3 := by have := cl_in bk; omega
  have hl7 : c < (A 7).length := by rw [h7, hds_len]; omega
  have hz7 : (A 7).getD c 0 = T c * 65536 + hd (L c) := by rw [h7, hds_at hc]
  have hT := hI.T0 c hc
  have hd6 := hI.top hc
  have hsame : upd A 7 c (T c * 65536 + hd (L c)) = A := upd_same hl7 hz7
  have hR : Rest A A := ⟨rfl, rfl, rfl⟩
  have hsn := hI.seen hc
  obtain ⟨z, hz⟩ : ∃ z, T c * 65536 + hd (L c) = z := ⟨_, rfl⟩
  rw [hz] at hz7 hsame hsn
  have z0 : 0 ≤ z ∧ z ≤ 18446744073709551615 := by omega
  have hzm : z % 65536 = hd (L c) := by omega
  have hpb : ∀ st' x', pb (.push g st' c bk x') = pb (p t) := fun st' x' => by rw [hp]; rfl
  rcases Nat.lt_or_ge st 1 with h0 | h0
  · obtain rfl : st = 0 := by omega
    have hI' : Inv K T L N held (up p t (.push g 1 c bk z)) := hI.turn ht (hpb _ _) ⟨hcb, hb6, .inr (.inl ⟨rfl, hsn⟩)⟩
    refine ⟨A, 1, 7, c, z, z, true, 1, z, T, L, N, _, fun B W hW hM => ?_, fun W hW hM => ?_, h7, h8, hR, hI'.more (by omega), .inl ⟨by omega, rfl, rfl, rfl⟩⟩
    · exact u_load hW hg bk x c hl7 z hz7 z0.1 z0.2 hM
    · exact v_load hW hy bk x c hl7 z hz7 z0.1 z0.2 hM
  · have hseen : Seen T L c x := by
      rcases hs with h | ⟨_, h⟩ | ⟨_, h, _⟩
      · omega
      · exact h
      · exact h
    have hx0 : 0 ≤ x ∧ x ≤ 18446744073709551615 := by
      obtain ⟨a, q, hx, q0, q6, a0, aT, _⟩ := hseen
      omega
    rcases Nat.lt_or_ge st 2 with h1 | h1
    · obtain rfl : st = 1 := by omega
      have hl8 : bk < (A 8).length := by rw [h8, hI.len]; omega
      have hI' := hI.link ht hp hseen g
      refine ⟨upd A 8 bk (x % 65536), 2, 8, bk, (A 8).getD bk 0, x % 65536, true, 2, x, T, L, N.set bk (x % 65536), _, fun B W hW hM => ?_, fun W hW hM => ?_, by rw [upd_ne (by decide)]; exact h7, by simp [upd, h8], rest_upd (.inr rfl), hI'.more (by omega), .inl ⟨by omega, rfl, rfl, rfl⟩⟩
      · exact u_link hW hg c x hx0.1 hx0.2 _ rfl (by omega) (by omega) bk hl8 _ rfl hM
      · exact v_link hW hy c x hx0.1 hx0.2 _ rfl (by omega) (by omega) bk hl8 _ rfl hM
    · obtain rfl : st = 2 := by omega
      by_cases he : z = x
      · subst he
        have hI' := hI.put ht hp hz.symm
        have hv : (z / 65536 + 1) % 281474976710656 * 65536 + ((bk : Int) + 1) = (T c + 1) * 65536 + hd (bk :: L c) := by
          have : z / 65536 = T c := by omega
          rw [this]
          simp only [hd]
          omega
        refine ⟨upd A 7 c ((T c + 1) * 65536 + hd (bk :: L c)), 3, 7, c, z, (T c + 1) * 65536 + hd (bk :: L c), true, 3, z, _, _, N, _, fun B W hW hM => ?_, fun W hW hM => ?_, ?_, by rw [upd_ne (by decide)]; exact h8, rest_upd (.inl rfl), hI', .inr ⟨rfl, rfl, rfl, rfl, rfl⟩⟩
        · exact u_step2_yes hW hg bk z hx0.1 hx0.2 (by omega) (by omega) c hl7 hz7 _ hv hM
        · exact v_put_yes hW hy bk z hx0.1 hx0.2 (by omega) (by omega) c hl7 hz7 _ hv hM
        · rw [← hds_up hc, ← h7]
          simp [upd]
      · have hI' : Inv K T L N held (up p t (.push g 0 c bk x)) := hI.turn ht (hpb _ _) ⟨hcb, hb6, .inl rfl⟩
        refine ⟨A, 3, 7, c, z, z, false, 0, x, T, L, N, _, fun B W hW hM => ?_, fun W hW hM => ?_, h7, h8, hR, hI'.more (by omega), .inl ⟨by omega, rfl, rfl, rfl⟩⟩
        · have := u_step2_no hW hg bk x hx0.1 hx0.2 (by omega) (by omega) c hl7 z hz7 _ rfl he hM
          rw [hsame] at this
          exact this
        · have := v_put_no hW hy bk x hx0.1 hx0.2 (by omega) (by omega) c hl7 z hz7 _ rfl he hM
          rw [hsame] at this
          exact this
end Go.Proofs.Ytnakmajnljpblaa.FreS

namespace Go.Proofs.Ytnakmajnljpblaa.FreW
open Go.ChangeShapes Go.WideShapes Go.ChangeAt Go.RowKit
open PlainT BlkW LayS LayA CelS CelM CelP CelV CelN CelO CelI CelY CelQ LabD LabR LabP LabS LabT FreP FreQ FreV FreC FreI FreA FreS
set_option linter.unusedVariables false
set_option maxHeartbeats 1000000

/-- The cells of both machines: the program's heads are H, its links N. -/
structure Fx (w0 : World) (lo hi b rb : Nat) (H N : List Int) (w : World) : Prop where
  duo : ∃ A B, Duo lo hi w b rb hq A B ∧ A 7 = H ∧ A 8 = N ∧ (A 3).length = 1 ∧ (A 4).length = 1 ∧ (A 5).length = 1
  lo : w0.heap.size ≤ lo
  old : Below w0.heap.size w0 w
section
variable {w0 w w' : World} {lo hi b rb g : Nat} {H N : List Int} {P : Nat → Prop}
theorem Fx.fr (h : Fx w0 lo hi b rb H N w) (k : Fr P w w') (hp : ∀ g, lo ≤ g → g < hi → ¬ P g) (h0 : ∀ g, P g → w0.heap.size ≤ g) : Fx w0 lo hi b rb H N w' := by
  obtain ⟨A, B, hd, h4⟩ := h.duo
  exact ⟨⟨A, B, hd.fr k hp, h4⟩, h.lo, k.after h.old h0 (Nat.le_refl _)⟩
theorem Fx.below (h : Fx w0 lo hi b rb H N w) (k : Below w.heap.size w w') : Fx w0 lo hi b rb H N w' :=
  h.fr (P := fun _ => False) (Fr.of_below k) (fun _ _ _ => id) (fun _ => False.elim)
theorem Fx.alloc (h : Fx w0 lo hi b rb H N w) (o : Obj) : Fx w0 lo hi b rb H N (w.alloc o) := h.below (below_new w o)
theorem Fx.drewN (h : Fx w0 lo hi b rb H N w) (n : Nat) : Fx w0 lo hi b rb H N (w.drewN n) := h.below (below_drewN (Below.refl _ w) n)
theorem Fx.top (h : Fx w0 lo hi b rb H N w) : hi ≤ w.heap.size := by
  obtain ⟨A, B, hd, _⟩ := h.duo
  exact hd.top
theorem Fx.le (h : Fx w0 lo hi b rb H N w) : lo ≤ hi := by
  obtain ⟨A, B, ⟨m1, m2, h1, h2, hm, _⟩, _⟩ := h.duo
  have := Is.le h1
  have := RefIs.le h2
  omega
theorem fx_begun {nt : Nat} {A : Int → List Int} (h : BegunN w0 hq nt A lo hi b rb w) : Fx w0 lo hi b rb [1, 4, 6, 0] [2, 3, 0, 5, 0, 0] w := by
  have h2 := fl_begun h
  obtain ⟨A, B, hd, h7, h8, h3, h4, h5, _⟩ := h2.duo
  exact ⟨⟨A, B, hd, h7, h8, h3, h4, h5⟩, h2.lo, h2.old⟩
theorem Fx.of_fl {tw : Bool} {T : Nat → Int} {L : Nat → List Nat} (h : Fl w0 lo hi b rb tw T L N w) : Fx w0 lo hi b rb (hds T L) N w := by
  obtain ⟨A, B, hd, h7, h8, h3, h4, h5, _⟩ := h.duo
  exact ⟨⟨A, B, hd, h7, h8, h3, h4, h5⟩, h.lo, h.old⟩
/-- What a step leaves. -/
theorem Fx.mk' {A B : Int → List Int} {H' N' : List Int} (h : Fx w0 lo hi b rb H N w) (hgw : w0.heap.size ≤ g) (hd : Duo lo hi w' b rb hq A B) (h7 : A 7 = H') (h8 : A 8 = N') (hl : (A 3).length = 1 ∧ (A 4).length = 1 ∧ (A 5).length = 1) (k : Fr (PG lo hi g) w w') : Fx w0 lo hi b rb H' N' w' :=
  ⟨⟨A, B, hd, h7, h8, hl⟩, h.lo, k.after h.old (fun x hx => by unfold PG at hx; have := h.lo; omega) (Nat.le_refl _)⟩
theorem lens_upd {A : Int → List Int} {k : Int} {i : Nat} {v : Int} (h : (A 3).length = 1 ∧ (A 4).length = 1 ∧ (A 5).length = 1) : (upd A k i v 3).length = 1 ∧ (upd A k i v 4).length = 1 ∧ (upd A k i v 5).length = 1 := by
  rw [upd_len, upd_len, upd_len]
  exact h
theorem x_load (h : Fx w0 lo hi b rb H N w) (hg : g < lo ∨ hi ≤ g) (hgw : w0.heap.size ≤ g) (ow n bl : Int) (c : Nat) (hl : c < H.length) (x : Int) (hx : H.getD c 0 = x) (x0 : 0 ≤ x) (x1 : x ≤ 18446744073709551615) (ht : (x % 65536 - 1 == -1) = false) (M : Mem w g TP1 (oBox 0 c ow n bl)) :
    Calls Try.prog 20 #[.pointer (some ⟨g, 0, none⟩), .pointer (some ⟨b, 0, none⟩)] w fun e w' => e = .returned (accV 1 7 c x x true) ∧ Fx w0 lo hi b rb H N w' ∧ Mem w' g TP1 (oBox 1 c x n bl) ∧ Fr (PG lo hi g) w w' := by
  obtain ⟨A, B, hd, h7, h8, hr⟩ := h.duo
  refine (p_load_some hd hg ow n bl c (by rw [h7]; exact hl) x (by rw [h7]; exact hx) x0 x1 ht M).mono ?_
  rintro e w' ⟨he, hD, hM, hF⟩
  exact ⟨he, h.mk' hgw hD h7 h8 hr hF, hM, hF⟩
theorem x_none (h : Fx w0 lo hi b rb H N w) (hg : g < lo ∨ hi ≤ g) (hgw : w0.heap.size ≤ g) (ow n bl : Int) (c : Nat) (hl : c < H.length) (x : Int) (hx : H.getD c 0 = x) (x0 : 0 ≤ x) (x1 : x ≤ 18446744073709551615) (ht : (x % 65536 - 1 == -1) = true) (M : Mem w g TP1 (oBox 0 c ow n bl)) :
    Calls Try.prog 20 #[.pointer (some ⟨g, 0, none⟩), .pointer (some ⟨b, 0, none⟩)] w fun e w' => e = .returned (accV 1 7 c x x true) ∧ Fx w0 lo hi b rb H N w' ∧ Mem w' g TP1 (oBox 3 c x n bl) ∧ Fr (PG lo hi g) w w' := by
  obtain ⟨A, B, hd, h7, h8, hr⟩ := h.duo
  refine (p_load_none hd hg ow n bl c (by rw [h7]; exact hl) x (by rw [h7]; exact hx) x0 x1 ht M).mono ?_
  rintro e w' ⟨he, hD, hM, hF⟩
  exact ⟨he, h.mk' hgw hD h7 h8 hr hF, hM, hF⟩
theorem x_next (h : Fx w0 lo hi b rb H N w) (hg : g < lo ∨ hi ≤ g) (hgw : w0.heap.size ≤ g) (c x n bl : Int) (x0 : 0 ≤ x) (x1 : x ≤ 18446744073709551615) (j : Nat) (hj : x % 65536 - 1 = j) (hl : j < N.length) (y : Int) (hy : N.getD j 0 = y) (y0 : 0 ≤ y) (y1 : y ≤ 64) (M : Mem w g TP1 (oBox 1 c x n bl)) :
    Calls Try.prog 20 #[.pointer (some ⟨g, 0, none⟩), .pointer (some ⟨b, 0, none⟩)] w fun e w' => e = .returned (accV 1 8 j y y true) ∧ Fx w0 lo hi b rb H N w' ∧ Mem w' g TP1 (oBox 2 c x (y - 1) bl) ∧ Fr (PG lo hi g) w w' := by
  obtain ⟨A, B, hd, h7, h8, hr⟩ := h.duo
  refine (p_next hd hg c x n bl x0 x1 j hj (by rw [h8]; exact hl) y (by rw [h8]; exact hy) y0 y1 M).mono ?_
  rintro e w' ⟨he, hD, hM, hF⟩
  exact ⟨he, h.mk' hgw hD h7 h8 hr hF, hM, hF⟩
theorem x_take (h : Fx w0 lo hi b rb H N w) (hg : g < lo ∨ hi ≤ g) (hgw : w0.heap.size ≤ g) (x n bl : Int) (x0 : 0 ≤ x) (x1 : x ≤ 18446744073709551615) (n0 : -1 ≤ n) (n1 : n < 64) (c : Nat) (hl : c < H.length) (hz : H.getD c 0 = x) (v : Int) (hv : (x / 65536 + 1) % 281474976710656 * 65536 + (n + 1) = v) (t : Int) (ht : x % 65536 - 1 = t) (M : Mem w g TP1 (oBox 2 c x n bl)) :
    Calls Try.prog 20 #[.pointer (some ⟨g, 0, none⟩), .pointer (some ⟨b, 0, none⟩)] w fun e w' => e = .returned (accV 3 7 c x v true) ∧ Fx w0 lo hi b rb (H.set c v) N w' ∧ Mem w' g TP1 (oBox 3 c x n t) ∧ Fr (PG lo hi g) w w' := by
  obtain ⟨A, B, hd, h7, h8, hr⟩ := h.duo
  refine (p_take_yes hd hg x n bl x0 x1 n0 n1 c (by rw [h7]; exact hl) (by rw [h7]; exact hz) v hv M).mono ?_
  rintro e w' ⟨he, hD, hM, hF⟩
  rw [ht] at hM
  exact ⟨he, h.mk' hgw hD (by simp [upd, h7]) (by rw [upd_ne (by decide)]; exact h8) (lens_upd hr) hF, hM, hF⟩
theorem x_miss (h : Fx w0 lo hi b rb H N w) (hg : g < lo ∨ hi ≤ g) (hgw : w0.heap.size ≤ g) (x n bl : Int) (x0 : 0 ≤ x) (x1 : x ≤ 18446744073709551615) (n0 : -1 ≤ n) (n1 : n < 64) (c : Nat) (hl : c < H.length) (z : Int) (hz : H.getD c 0 = z) (he : ¬ z = x) (M : Mem w g TP1 (oBox 2 c x n bl)) :
    Calls Try.prog 20 #[.pointer (some ⟨g, 0, none⟩), .pointer (some ⟨b, 0, none⟩)] w fun e w' => e = .returned (accV 3 7 c z z false) ∧ Fx w0 lo hi b rb H N w' ∧ Mem w' g TP1 (oBox 0 c x n bl) ∧ Fr (PG lo hi g) w w' := by
  obtain ⟨A, B, hd, h7, h8, hr⟩ := h.duo
  have hl7 : c < (A 7).length := by rw [h7]; exact hl
  have hz7 : (A 7).getD c 0 = z := by rw [h7]; exact hz
  refine (p_take_no hd hg x n bl x0 x1 n0 n1 c hl7 z hz7 _ rfl he M).mono ?_
  rintro e w' ⟨he, hD, hM, hF⟩
  rw [upd_same hl7 hz7] at hD
  exact ⟨he, h.mk' hgw hD h7 h8 hr hF, hM, hF⟩
theorem y_load (h : Fx w0 lo hi b rb H N w) (hg : g < lo ∨ hi ≤ g) (hgw : w0.heap.size ≤ g) (bk ow : Int) (c : Nat) (hl : c < H.length) (x : Int) (hx : H.getD c 0 = x) (x0 : 0 ≤ x) (x1 : x ≤ 18446744073709551615) (M : Mem w g TP2 (uBox 0 c bk ow)) :
    Calls Try.prog 24 #[.pointer (some ⟨g, 0, none⟩), .pointer (some ⟨b, 0, none⟩)] w fun e w' => e = .returned (accV 1 7 c x x true) ∧ Fx w0 lo hi b rb H N w' ∧ Mem w' g TP2 (uBox 1 c bk x) ∧ Fr (PG lo hi g) w w' := by
  obtain ⟨A, B, hd, h7, h8, hr⟩ := h.duo
  refine (u_load hd hg bk ow c (by rw [h7]; exact hl) x (by rw [h7]; exact hx) x0 x1 M).mono ?_
  rintro e w' ⟨he, hD, hM, hF⟩
  exact ⟨he, h.mk' hgw hD h7 h8 hr hF, hM, hF⟩
theorem y_link (h : Fx w0 lo hi b rb H N w) (hg : g < lo ∨ hi ≤ g) (hgw : w0.heap.size ≤ g) (c x : Int) (x0 : 0 ≤ x) (x1 : x ≤ 18446744073709551615) (t : Int) (ht : x % 65536 = t) (j : Nat) (hl : j < N.length) (y : Int) (hy : N.getD j 0 = y) (M : Mem w g TP2 (uBox 1 c j x)) :
    Calls Try.prog 24 #[.pointer (some ⟨g, 0, none⟩), .pointer (some ⟨b, 0, none⟩)] w fun e w' => e = .returned (accV 2 8 j y t true) ∧ Fx w0 lo hi b rb H (N.set j t) w' ∧ Mem w' g TP2 (uBox 2 c j x) ∧ Fr (PG lo hi g) w w' := by
  obtain ⟨A, B, hd, h7, h8, hr⟩ := h.duo
  refine (u_link hd hg c x x0 x1 t (by omega) (by omega) (by omega) j (by rw [h8]; exact hl) y (by rw [h8]; exact hy) M).mono ?_
  rintro e w' ⟨he, hD, hM, hF⟩
  exact ⟨he, h.mk' hgw hD (by rw [upd_ne (by decide)]; exact h7) (by simp [upd, h8]) (lens_upd hr) hF, hM, hF⟩
theorem y_put (h : Fx w0 lo hi b rb H N w) (hg : g < lo ∨ hi ≤ g) (hgw : w0.heap.size ≤ g) (k x : Int) (x0 : 0 ≤ x) (x1 : x ≤ 18446744073709551615) (n0 : -1 ≤ k) (n1 : k < 64) (c : Nat) (hl : c < H.length) (hz : H.getD c 0 = x) (v : Int) (hv : (x / 65536 + 1) % 281474976710656 * 65536 + (k + 1) = v) (M : Mem w g TP2 (uBox 2 c k x)) :
    Calls Try.prog 24 #[.pointer (some ⟨g, 0, none⟩), .pointer (some ⟨b, 0, none⟩)] w fun e w' => e = .returned (accV 3 7 c x v true) ∧ Fx w0 lo hi b rb (H.set c v) N w' ∧ Mem w' g TP2 (uBox 3 c k x) ∧ Fr (PG lo hi g) w w' := by
  obtain ⟨A, B, hd, h7, h8, hr⟩ := h.duo
  refine (u_step2_yes hd hg k x x0 x1 n0 n1 c (by rw [h7]; exact hl) (by rw [h7]; exact hz) v hv M).mono ?_
  rintro e w' ⟨he, hD, hM, hF⟩
  exact ⟨he, h.mk' hgw hD (by simp [upd, h7]) (by rw [upd_ne (by decide)]; exact h8) (lens_upd hr) hF, hM, hF⟩
/-- An image of the program's cells. -/
def Img (w0 : World) (lo hi b rb : Nat) (H N : List Int) (w : World) (e : Ending) (w' : World) : Prop :=
  ∃ (a1 a2 a3 a4 a5 : Option Addr) (n1 n2 n3 k1 k2 k3 k4 k5 : Nat) (c t s : Int), e = .returned (imgV (.slice a1 n1 k1) (.slice a2 n2 k2) c t s (.slice a3 n3 k3) (.slice a4 H.length k4) (.slice a5 N.length k5)) ∧
    OwnU w' w.heap.size (.slice a4 H.length k4) H ∧ OwnU w' w.heap.size (.slice a5 N.length k5) N ∧ Fx w0 lo hi b rb H N w' ∧ Stay lo hi w w'
theorem f_image (h : Fx w0 lo hi b rb H N w) : Calls Try.prog 28 #[.pointer (some ⟨b, 0, none⟩)] w fun e w' => Img w0 lo hi b rb H N w e w' := by
  obtain ⟨A, B, ⟨m1, m2, hI, hR, hm, ho⟩, h7, h8, h3, h4, h5⟩ := h.duo
  obtain ⟨c, hc⟩ : ∃ c, A 3 = [c] := ⟨_, one_get h3⟩
  obtain ⟨t, ht⟩ : ∃ c, A 4 = [c] := ⟨_, one_get h4⟩
  obtain ⟨s, hs⟩ : ∃ c, A 5 = [c] := ⟨_, one_get h5⟩
  refine (m_image lo m1 w b A hI c t s hc ht hs).mono ?_
  rintro e w' ⟨vd, vo, vl, vh, vn, he, ⟨o1, o2, o3, o4, o5⟩, hI', hS⟩
  obtain ⟨hD, hS2⟩ := Duo.left hR hm ho hI' hS
  obtain ⟨a1, k1, rfl, _⟩ := own_slice o1
  obtain ⟨a2, k2, rfl, _⟩ := own_slice o2
  obtain ⟨a3, k3, rfl, _⟩ := own_slice o3
  rw [h7] at o4
  rw [h8] at o5
  obtain ⟨a4, k4, rfl, _⟩ := own_slice o4
  obtain ⟨a5, k5, rfl, _⟩ := own_slice o5
  exact ⟨a1, a2, a3, a4, a5, _, _, _, k1, k2, k3, k4, k5, c, t, s, he, o4, o5, ⟨⟨A, B, hD, h7, h8, h3, h4, h5⟩, h.lo, h.old.trans (hS2.below h.lo h.old.size)⟩, hS2⟩
end
/-- The list of class k out of an image. -/
theorem f_list {w : World} {H N : List Int} (a1 a2 a3 a4 a5 : Option Addr) (n1 n2 n3 k1 k2 k3 k4 k5 : Nat) (c t s : Int) (hH : Rd w (.slice a4 H.length k4) H) (hN : Rd w (.slice a5 N.length k5) N) (h4 : H.length = 4) (h40 : N.length ≤ 1000) (hu : ∀ j, j < N.length → 0 ≤ N.getD j 0 ∧ N.getD j 0 ≤ 18446744073709551615) (k : Nat) (hk : k ≤ 3) (x : Int) (hx : H.getD k 0 = x) (x0 : 0 ≤ x) (x1 : x ≤ 18446744073709551615) :
    Calls Try.prog 61 #[imgV (.slice a1 n1 k1) (.slice a2 n2 k2) c t s (.slice a3 n3 k3) (.slice a4 H.length k4) (.slice a5 N.length k5), .int .i64 k] w (Lst (lsV N (x % 65536)) w) := by
  rw [h4] at hH ⊢
  exact a_list a1 a2 a3 a4 a5 n1 n2 n3 N.length k1 k2 k3 k4 k5 c t s k hk w H N hH h4 hN rfl h40 x hx x0 x1 hu
end Go.Proofs.Ytnakmajnljpblaa.FreW
