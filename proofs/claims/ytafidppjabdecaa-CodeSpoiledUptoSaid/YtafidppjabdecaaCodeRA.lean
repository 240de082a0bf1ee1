/-
  The reference's reader: a number of the parser's answer, or zero and the mark that the bytes are bad.
-/
import Derived.Test.YtafidppjabdecaaCodeE
import Derived.Deep.QuietTactic
import Derived.BigQuiet
namespace Go.Proofs.Ytafidppjabdecaa.CodeRA
open Go.ChangeShapes Go.WideShapes Go.ChangeAt Go.RowKit
open PlainT BlkW LawFrame CodeS CodeW CodeA CodeE
set_option linter.unusedVariables false
set_option maxHeartbeats 1000000

/-- The type of the block that the reference's reader writes to. -/
def TQ : List Nat := [69]
/-- The reference's reader in block g: all bytes, the place, the mark. -/
def Rq (B : Nat) (w : World) (g : Nat) (l : List Int) (i : Nat) (bad : Bool) : Prop := B ≤ g ∧ B ≤ w.heap.size ∧ l.length ≤ 262144 ∧ i ≤ l.length ∧ ∃ A n c, Mem w g 69 #[.slice A n c, .int .i64 (i : Int), .bool bad] ∧ n ≤ c ∧ c ≤ maxLen ∧ Ints .u8 w A n l ∧ (0 < n → ∀ a, A = some a → a.block < B)
theorem Ints.setOwn {B g i : Nat} {w : World} {A : Option Addr} {n : Nat} {l : List Int} (h7 : Ints .u8 w A n l) (h8 : 0 < n → ∀ a, A = some a → a.block < B) (hg : B ≤ g) (u : Value) : Ints .u8 (w.setCell ⟨g, i, none⟩ u) A n l := by
  refine ⟨h7.1, h7.2.1, fun hn => ?_⟩
  obtain ⟨b, off, rfl, hb', hc⟩ := h7.2.2 hn
  have : b < B := h8 hn _ rfl
  exact ⟨b, off, rfl, by simp only [World.setCell, Array.size_modify]; exact hb', fun j hj => by rw [World.cell?_of_block (w := w) (Below.heap_setCell _ _ _ _ (show b ≠ g by omega))]; exact hc j hj⟩
theorem Rq.at_ {B g i j : Nat} {w : World} {l : List Int} {bad : Bool} (h : Rq B w g l i bad) (hj : j ≤ l.length) : Rq B (w.setCell ⟨g, 1, none⟩ (.int .i64 (j : Int))) g l j bad := by
  obtain ⟨h1, h2, h3, _, A, n, c, h4, h5, h6, h7, h8⟩ := h
  exact ⟨h1, by simp only [World.setCell, Array.size_modify]; exact h2, h3, hj, A, n, c, h4.set_ 1 _, h5, h6, Ints.setOwn h7 h8 h1 _, h8⟩
theorem Rq.mark {B g i : Nat} {w : World} {l : List Int} {bad : Bool} (h : Rq B w g l i bad) (b : Bool) : Rq B (w.setCell ⟨g, 2, none⟩ (.bool b)) g l i b := by
  obtain ⟨h1, h2, h3, h9, A, n, c, h4, h5, h6, h7, h8⟩ := h
  exact ⟨h1, by simp only [World.setCell, Array.size_modify]; exact h2, h3, h9, A, n, c, h4.set_ 2 _, h5, h6, Ints.setOwn h7 h8 h1 _, h8⟩
theorem Rq.fr {B g i j : Nat} {w w0 : World} {l : List Int} {bad : Bool} (h : Rq B w g l i bad) (hf : Fr TQ B w0 w) (u : Value) : Fr TQ B w0 (w.setCell ⟨g, j, none⟩ u) := by
  obtain ⟨h1, h2, h3, h9, A, n, c, h4, _⟩ := h
  exact Fr.setCell (p := ⟨g, j, none⟩) hf h1 h4 (by unfold TQ; simp) u
theorem Rq.byte {B g i : Nat} {w : World} {l : List Int} {bad : Bool} (h : Rq B w g l i bad) : ∀ b ∈ l, 0 ≤ b ∧ b ≤ 255 := by
  obtain ⟨_, _, _, _, A, n, c, _, _, _, h7, _⟩ := h
  intro b hb
  have h2 : IntKind.u8.min ≤ b ∧ b ≤ IntKind.u8.max := by simpa [Lit.wf] using h7.2.1 b hb
  rw [show IntKind.u8.min = 0 by decide, show IntKind.u8.max = 255 by decide] at h2
  exact h2
/-- From the tenth byte on the parser fails. -/
theorem rdU_late : ∀ (l : List Int) (k : Nat) (acc : Int), 10 ≤ k → (∀ b ∈ l, 0 ≤ b ∧ b ≤ 255) → rdU k acc l = none := by
  intro l
  induction l with
  | nil => intro k acc _ _; simp [rdU]
  | cons b r ih =>
    intro k acc hk hb
    have h1 := hb b (by simp)
    simp only [rdU]
    by_cases ho : okB k b = true
    · have e : b % 128 = 0 := by
        unfold okB at ho
        simp only [Bool.or_eq_true, decide_eq_true_eq, Bool.and_eq_true] at ho
        omega
      rw [if_pos ho]
      by_cases h : b < 128
      · rw [if_pos h, if_pos ⟨by omega, by omega⟩]
      · rw [if_neg h]
        exact ih (k + 1) _ (by omega) (fun x hx => hb x (by simp [hx]))
    · rw [if_neg ho]
theorem rdU_nine {acc b : Int} {r : List Int} (hb : ∀ x ∈ b :: r, 0 ≤ x ∧ x ≤ 255) (h : 1 < b) : rdU 9 acc (b :: r) = none := by
  have h1 := hb b (by simp)
  simp only [rdU]
  by_cases ho : okB 9 b = true
  · rw [if_pos ho]
    have e : b % 128 ≤ 1 := by
      unfold okB at ho
      simp only [Bool.or_eq_true, decide_eq_true_eq, Bool.and_eq_true] at ho
      omega
    by_cases h2 : b < 128
    · omega
    · rw [if_neg h2]
      exact rdU_late r _ _ (by omega) (fun x hx => hb x (by simp [hx]))
  · rw [if_neg ho]
theorem drop_cons {l : List Int} {i : Nat} (h : i < l.length) : l.drop i = l[i] :: l.drop (i + 1) := List.drop_eq_getElem_cons h
/-- What the reference's reader returns of a number. -/
def QIs (B g : Nat) (w : World) (l : List Int) (i : Nat) (bad : Bool) (v : Int) (w' : World) : Prop := ∃ (j : Nat) (bad' : Bool), i ≤ j ∧ InU v ∧ Rq B w' g l j bad' ∧ Fr TQ B w w' ∧ ((bad' = true ∧ v = 0 ∧ (bad = true ∨ rU (l.drop i) = none)) ∨ (bad' = false ∧ bad = false ∧ rU (l.drop i) = some (v, l.drop j)))
theorem run_shl (k : Nat) (m : Int) : Op.shift .shl .u64 m .u64 (7 * (k : Int)) = pure (.int .u64 (shX k m)) := by
  rw [shift_shl_any _ _ _ _ (by omega), toNat7]
  rfl
theorem Rq.drewN {B g i : Nat} {w : World} {l : List Int} {bad : Bool} (h : Rq B w g l i bad) (n : Nat) : Rq B (w.drewN n) g l i bad := h
def QR (B g : Nat) (w : World) (l : List Int) (i : Nat) (bad : Bool) (n sh : Value) (wr : World) : Prop := ∃ (k j : Nat) (acc : Int), n = .int .u64 acc ∧ sh = .int .u64 (7 * k) ∧ k ≤ 9 ∧ InU acc ∧ acc < 128 ^ k ∧ i ≤ j ∧ Rq B wr g l j bad ∧ (bad = false → rU (l.drop i) = rdU k acc (l.drop j)) ∧ Fr TQ B w wr
set_option maxHeartbeats 4000000 in
set_option maxRecDepth 100000 in
theorem r_runsigned (B g : Nat) (l : List Int) (i : Nat) (bad : Bool) (w : World) (h : Rq B w g l i bad) : Calls Try.prog 31 #[.pointer (some ⟨g, 0, none⟩)] w fun e w' => ∃ v, e = .returned (.int .u64 v) ∧ QIs B g w l i bad v w' := by
  have hsg : IntKind.i64.signed = true := rfl
  go_enter Try.func31, Try.ntmps31
  go_wp2
  go_loopw [3, 4] (fun n sh wr => QR B g w l i bad n sh wr) (fun _ sh _ => 20000 - (intOf sh).toNat)
  case atStart => exact ⟨0, i, 0, rfl, rfl, by omega, ⟨by omega, by omega⟩, by decide, Nat.le_refl _, h, fun _ => rfl, Fr.refl _ _ _⟩
  case round =>
    obtain ⟨k, j, acc, rfl, rfl, hk9, ha, hak, hij, hrd, heq, hfr⟩ := hrel
    have HEQ := Lib.hid heq
    have HAK := Lib.hid hak
    have HRD := Lib.hid hrd
    have HFR := Lib.hid hfr
    obtain ⟨h1, h2, h3, hj, A, n, c, h4, h5, h6, h7, h8⟩ := hrd
    have hn : l.length = n := h7.1
    subst hn
    have d0 := h4.cell 0
    have d1 := h4.cell 1
    have d2 := h4.cell 2
    have z1 := h4.frozen 1
    have z2 := h4.frozen 2
    have hgl := h4.lt
    simp only [List.getElem?_toArray, List.getElem?_cons_zero, List.getElem?_cons_succ] at d0 d1 d2
    have H7 := Lib.hid h7
    have H8 := Lib.hid h8
    clear heq hak h4 h7 h8 hfr
    cases bad with
    | true =>
      go_wp2_with fail
      go_quiet (fail)
      go_wp2_with fail
      go_ret
      exact ⟨_, rfl, j, true, hij, ⟨by omega, by omega⟩, (HRD.out.drewN _).mark true, (HRD.out.drewN _).fr (HFR.out.drewN _) _, .inl ⟨rfl, rfl, .inl rfl⟩⟩
    | false =>
      by_cases hje : j = l.length
      · have HN := Lib.hid (show rU (l.drop i) = none by rw [HEQ.out rfl, hje, List.drop_length, rdU])
        subst hje
        go_wp2_with fail
        go_quiet (fail)
        go_wp2_with fail
        go_ret
        exact ⟨_, rfl, l.length, true, hij, ⟨by omega, by omega⟩, (HRD.out.drewN _).mark true, (HRD.out.drewN _).fr (HFR.out.drewN _) _, .inl ⟨rfl, rfl, .inr HN.out⟩⟩
      · have hjl : j < l.length := by omega
        obtain ⟨b0, off, rfl, hb, hc⟩ := H7.out.2.2 (by omega)
        have d3 := hc j hjl
        have hdr := drop_cons hjl
        have hbb : 0 ≤ l[j] ∧ l[j] ≤ 255 := HRD.out.byte l[j] (by simp)
        have HD := Lib.hid (show rU (l.drop i) = rdU k acc (l[j] :: l.drop (j + 1)) by rw [HEQ.out rfl, hdr])
        have HBY := Lib.hid (show ∀ x ∈ l[j] :: l.drop (j + 1), 0 ≤ x ∧ x ≤ 255 by rw [← hdr]; exact fun x hx => HRD.out.byte x (List.mem_of_mem_drop hx))
        have hbg : b0 ≠ g := by have := H8.out (by omega) _ rfl; simp only at this; omega
        have d3' : wr.cell? ⟨b0, off + j, none⟩ = some (.int .u8 l[j]) := by rw [d3]; simp [List.getD, List.getElem?_eq_getElem hjl]
        obtain ⟨b, hbe⟩ : ∃ b, l[j] = b := ⟨_, rfl⟩
        rw [hbe] at HD HBY hbb d3'
        obtain ⟨hb0, hb1⟩ := hbb
        clear d3 hc hdr hbe
        have W2 := Lib.hid (show ∀ m : Nat, Rq B ((wr.drewN m).setCell ⟨g, 1, none⟩ (.int .i64 ((j : Int) + 1))) g l (j + 1) false ∧ Fr TQ B w ((wr.drewN m).setCell ⟨g, 1, none⟩ (.int .i64 ((j : Int) + 1))) from fun m => ⟨(HRD.out.drewN m).at_ (j := j + 1) (by omega), (HRD.out.drewN m).fr (HFR.out.drewN m) _⟩)
        have W3 := Lib.hid (show ∀ m : Nat, rU (l.drop i) = none → QIs B g w l i false 0 (((wr.drewN m).setCell ⟨g, 1, none⟩ (.int .i64 ((j : Int) + 1))).setCell ⟨g, 2, none⟩ (.bool true)) from fun m hN => ⟨j + 1, true, by omega, ⟨by omega, by omega⟩, (W2.out m).1.mark true, (W2.out m).1.fr (W2.out m).2 _, .inl ⟨rfl, rfl, .inr hN⟩⟩)
        have W4 := Lib.hid (show ∀ (m : Nat) (v : Int), InU v → rU (l.drop i) = some (v, l.drop (j + 1)) → QIs B g w l i false v ((wr.drewN m).setCell ⟨g, 1, none⟩ (.int .i64 ((j : Int) + 1))) from fun m v hv hN => ⟨j + 1, false, by omega, hv, (W2.out m).1, (W2.out m).2, .inr ⟨rfl, rfl, hN⟩⟩)
        have s1 := run_shl k (b % 128)
        obtain ⟨X, hX⟩ : ∃ X, shX k (b % 128) = X := ⟨_, rfl⟩
        have HX := Lib.hid hX
        rw [hX] at s1
        clear hX
        have HK9 := Lib.hid hk9
        have HAU := Lib.hid ha
        have hkb : k ≤ 1000 := by omega
        have HIJ := Lib.hid hij
        clear hk9 ha hij hje
        by_cases hbad : (k = 9 ∧ 1 < b) ∨ (0 < k ∧ b = 0)
        · have HN := Lib.hid (show rU (l.drop i) = none by
            rw [HD.out]
            rcases hbad with ⟨rfl, h9⟩ | ⟨h9, rfl⟩
            · exact rdU_nine HBY.out h9
            · simp only [rdU]
              by_cases ho : okB k 0 = true
              · rw [if_pos ho, if_pos (by omega), if_pos (by simp; omega)]
              · rw [if_neg ho])
          by_cases h9 : k = 9 ∧ 1 < b
          · have e1 : ((7 * (k : Int)) == 63) = true := by simp; omega
            have e2 : 1 < b := h9.2
            clear h9 hbad
            go_wp2_with fail
            go_quiet (fail)
            go_wp2_with fail
            go_quiet (fail)
            go_wp2_with fail
            go_ret
            exact ⟨_, rfl, W3.out _ HN.out⟩
          · have hz : 0 < k ∧ b = 0 := by omega
            have e3 : b = 0 := hz.2
            have e4 : ¬ (1 < b) := by omega
            have e2 : decide ((0 : Int) < 7 * (k : Int)) = true := by simp; omega
            clear h9 hbad hz
            by_cases h63 : k = 9
            · have e1 : ((7 * (k : Int)) == 63) = true := by simp; omega
              clear h63
              go_wp2_with fail
              go_quiet (fail)
              go_wp2_with fail
              go_quiet (fail)
              go_wp2_with fail
              go_ret
              exact ⟨_, rfl, W3.out _ HN.out⟩
            · have e1 : ((7 * (k : Int)) == 63) = false := by simp; omega
              clear h63
              go_wp2_with fail
              go_quiet (fail)
              go_wp2_with fail
              go_quiet (fail)
              go_wp2_with fail
              go_ret
              exact ⟨_, rfl, W3.out _ HN.out⟩
        · have hok : okB k b = true := by
            unfold okB
            simp only [Bool.or_eq_true, decide_eq_true_eq, Bool.and_eq_true]
            have := HK9.out
            omega
          have hX := HX.out
          rw [sh_val hok] at hX
          obtain ⟨q1, q2, q3⟩ := acc_step hok HAU.out (fun _ => HAK.out)
          rw [hX] at q1 q2 q3
          obtain ⟨acc', hacc⟩ : ∃ a, acc + X = a := ⟨_, rfl⟩
          rw [hacc] at q1 q2 q3
          have HR := Lib.hid (show rU (l.drop i) = if b < 128 then if b = 0 ∧ k ≠ 0 then none else some (acc', l.drop (j + 1)) else rdU (k + 1) acc' (l.drop (j + 1)) by rw [HD.out, rdU, hok, hX, hacc]; rfl)
          have HS9 := Lib.hid (show k = 9 → IntKind.u64.wrap (b % 128 * 2 ^ (7 * k)) = X by
            rintro rfl
            rw [← HX.out]
            rfl)
          have Q1 := Lib.hid q1
          have Q2 := Lib.hid q2
          clear hX hok q1 q2 HX hacc
          by_cases h128 : b < 128
          · have HV := Lib.hid (show rU (l.drop i) = some (acc', l.drop (j + 1)) by rw [HR.out, if_pos h128, if_neg (by omega)])
            clear HR
            by_cases h63 : k = 9
            · have e1 : ((7 * (k : Int)) == 63) = true := by simp; omega
              have e3 : decide ((0 : Int) < 7 * (k : Int)) = true := by simp; omega
              have e4 : ¬ (1 < b) := by omega
              have s9 := HS9.out h63
              have e5 : (b == 0) = false := by simp; omega
              clear h63 hbad
              go_wp2_with fail
              go_quiet (fail)
              go_wp2_with fail
              go_quiet (fail)
              go_wp2_with fail
              go_ret
              exact ⟨_, rfl, W4.out _ _ Q1.out HV.out⟩
            · have e1 : ((7 * (k : Int)) == 63) = false := by simp; omega
              by_cases h0 : k = 0
              · have e3 : decide ((0 : Int) < 7 * (k : Int)) = false := by simp; omega
                clear h63 hbad h0
                go_wp2_with fail
                go_quiet (fail)
                go_wp2_with fail
                go_quiet (fail)
                go_wp2_with fail
                go_ret
                exact ⟨_, rfl, W4.out _ _ Q1.out HV.out⟩
              · have e3 : decide ((0 : Int) < 7 * (k : Int)) = true := by simp; omega
                have e5 : (b == 0) = false := by simp; omega
                clear h63 hbad h0
                go_wp2_with fail
                go_quiet (fail)
                go_wp2_with fail
                go_quiet (fail)
                go_wp2_with fail
                go_ret
                exact ⟨_, rfl, W4.out _ _ Q1.out HV.out⟩
          · have HV := Lib.hid (show rU (l.drop i) = rdU (k + 1) acc' (l.drop (j + 1)) by rw [HR.out, if_neg h128])
            have H8K := Lib.hid (show k + 1 ≤ 9 by have := HK9.out; omega)
            clear HR
            have e1 : ((7 * (k : Int)) == 63) = false := by have := H8K.out; simp; omega
            have e5 : (b == 0) = false := by simp; omega
            by_cases h0 : k = 0
            · have e3 : decide ((0 : Int) < 7 * (k : Int)) = false := by simp; omega
              clear hbad h0
              go_wp2_with fail
              go_quiet (fail)
              go_wp2_with fail
              go_quiet (fail)
              go_wp2_with fail
              go_roundw
              case rel => exact ⟨k + 1, j + 1, acc', rfl, by go_num, H8K.out, Q1.out, Q2.out H8K.out, by have := HIJ.out; omega, (W2.out _).1, fun _ => HV.out, (W2.out _).2⟩
              case measure => simp [intOf]; omega
            · have e3 : decide ((0 : Int) < 7 * (k : Int)) = true := by simp; omega
              clear hbad h0
              go_wp2_with fail
              go_quiet (fail)
              go_wp2_with fail
              go_quiet (fail)
              go_wp2_with fail
              go_roundw
              case rel => exact ⟨k + 1, j + 1, acc', rfl, by go_num, H8K.out, Q1.out, Q2.out H8K.out, by have := HIJ.out; omega, (W2.out _).1, fun _ => HV.out, (W2.out _).2⟩
              case measure => simp [intOf]; omega
end Go.Proofs.Ytafidppjabdecaa.CodeRA
