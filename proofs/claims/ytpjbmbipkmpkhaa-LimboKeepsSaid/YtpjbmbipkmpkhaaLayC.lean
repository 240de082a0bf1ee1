/-
  Contracts of the reference of layer 7: Check.
-/
import Derived.Test.YtpjbmbipkmpkhaaLayB
namespace Go.Proofs.Ytpjbmbipkmpkhaa.LayC
open Go.ChangeShapes Go.WideShapes Go.ChangeAt Go.RowKit
open PlainT BlkW LayS LayA LayB
set_option linter.unusedVariables false
set_option maxHeartbeats 1000000

theorem chk_w {q : Cfg} (h1 : inB q.w 1 64 = false) : chkV q = 50 := by
  unfold chkV
  rw [h1]
  rfl
theorem chk_o {q : Cfg} (h1 : inB q.o 1 64 = false) : chkV q = 50 := by
  unfold chkV
  rw [h1, Bool.and_false]
  rfl
theorem chk_h {q : Cfg} (h1 : inB q.w 1 64 = true) (h2 : inB q.o 1 64 = true) (h3 : heapB q = false) : chkV q = 51 := by
  unfold chkV
  rw [h1, h2, h3]
  rfl
theorem chk_l {q : Cfg} (h1 : inB q.w 1 64 = true) (h2 : inB q.o 1 64 = true) (h3 : heapB q = true) (h4 : logsB q = false) : chkV q = 52 := by
  unfold chkV
  rw [h1, h2, h3, h4]
  rfl
theorem chk_k {q : Cfg} (h1 : inB q.w 1 64 = true) (h2 : inB q.o 1 64 = true) (h3 : heapB q = true) (h4 : logsB q = true) (h5 : inB q.k 0 1099511627776 = false) : chkV q = 53 := by
  unfold chkV
  rw [h1, h2, h3, h4, h5]
  rfl
theorem chk_0 {q : Cfg} (h1 : inB q.w 1 64 = true) (h2 : inB q.o 1 64 = true) (h3 : heapB q = true) (h4 : logsB q = true) (h5 : inB q.k 0 1099511627776 = true) : chkV q = 0 := by
  unfold chkV
  rw [h1, h2, h3, h4, h5]
  rfl
theorem heap_c {q : Cfg} {k : Nat} (hk : k ≤ 3) (h : inB (cnt q k) 0 64 = false) : heapB q = false := by
  have hk' : k = 0 ∨ k = 1 ∨ k = 2 ∨ k = 3 := by omega
  unfold heapB
  rcases hk' with rfl | rfl | rfl | rfl <;> simp only [cnt] at h <;> rw [h] <;> simp
theorem heap_f {q : Cfg} (h : ¬ (pre q 4 ≤ 64 ∧ inB q.b 0 q.w = true ∧ q.b + preW q 4 ≤ q.w)) : heapB q = false := by
  cases h0 : heapB q with
  | false => rfl
  | true =>
    exfalso
    apply h
    have := heap_iff.1 h0
    simp only [pre, preW, inB_iff]
    omega
theorem heap_t {q : Cfg} (hf : fits q 4) (h : pre q 4 ≤ 64 ∧ inB q.b 0 q.w = true ∧ q.b + preW q 4 ≤ q.w) : heapB q = true := by
  simp only [pre, preW, inB_iff, fits] at h hf
  rw [heap_iff]
  omega
set_option maxRecDepth 100000 in
set_option maxHeartbeats 4000000 in
theorem r_check (q : Cfg) (w : World) : Calls Try.prog 115 #[cfgV q] w fun e w' => e = .returned (.int .i64 (chkV q)) ∧ Below w.heap.size w w' := by
  have HB := Lib.hid (below_new w (.cells (cells q) TC))
  obtain ⟨v, hv⟩ : ∃ v, chkV q = v := ⟨_, rfl⟩
  rw [hv]
  cases h1 : inB q.w 1 64 with
  | false =>
    rw [chk_w h1] at hv
    subst hv
    go_enter Try.func115, Try.ntmps115
    go_wp2_with (go_at_call 134; (with_reducible refine (r_within _ _ _ _).mono ?_); rintro e w1 ⟨rfl, rfl⟩)
    go_ret
    exact ⟨rfl, HB.out⟩
  | true =>
  cases h2 : inB q.o 1 64 with
  | false =>
    rw [chk_o h2] at hv
    subst hv
    go_enter Try.func115, Try.ntmps115
    go_wp2_with (go_at_call 134; (with_reducible refine (r_within _ _ _ _).mono ?_); rintro e w1 ⟨rfl, rfl⟩)
    go_ret
    exact ⟨rfl, HB.out⟩
  | true =>
  have HV := Lib.hid hv
  have H1 := Lib.hid h1
  have H2 := Lib.hid h2
  clear hv
  obtain ⟨w0, w1⟩ := inB_iff.1 h1
  go_enter Try.func115, Try.ntmps115
  go_wp2_with (go_at_call 134; (with_reducible refine (r_within _ _ _ _).mono ?_); rintro e w1 ⟨rfl, rfl⟩)
  go_loop [3, 4, 5] (fun bl en kv => ∃ k : Nat, k ≤ 4 ∧ kv = .int .i64 k ∧ bl = .int .i64 (pre q k) ∧ en = .int .i64 (preW q k) ∧ Hid (fits q k)) (fun _ _ kv => 4 - (intOf kv).toNat)
  case atStart => exact ⟨0, by omega, rfl, rfl, rfl, Lib.hid trivial⟩
  case round =>
    obtain ⟨k, hk, rfl, rfl, rfl, hf⟩ := hrel
    have hk' : k = 0 ∨ k = 1 ∨ k = 2 ∨ k = 3 ∨ k = 4 := by omega
    clear h1 h2
    rcases hk' with rfl | rfl | rfl | rfl | rfl
    · obtain ⟨p0, p1, p2, p3⟩ := pre_in (by omega) hf.out
      cases h : inB q.c0 0 64 with
      | false =>
        have hv2 := HV.out
        rw [chk_h H1.out H2.out (heap_c (k := 0) (by omega) h)] at hv2
        subst hv2
        go_wp2_with (go_at_call 134; (with_reducible refine (r_within _ _ _ _).mono ?_); rintro e w1 ⟨rfl, rfl⟩)
        go_ret
        exact ⟨rfl, HB.out⟩
      | true =>
        obtain ⟨h1, h2⟩ := inB_iff.1 h
        have HF := Lib.hid (fits_next (q := q) (k := 0) hf.out h1 h2)
        go_wp2_with (go_at_call 134; (with_reducible refine (r_within _ _ _ _).mono ?_); rintro e w1 ⟨rfl, rfl⟩)
        go_round
        case rel => exact ⟨1, by omega, rfl, int_eq (by simp only [pre] <;> omega), int_eq (by simp only [preW] <;> omega), HF⟩
        case measure => simp [intOf]
    · obtain ⟨p0, p1, p2, p3⟩ := pre_in (by omega) hf.out
      cases h : inB q.c1 0 64 with
      | false =>
        have hv2 := HV.out
        rw [chk_h H1.out H2.out (heap_c (k := 1) (by omega) h)] at hv2
        subst hv2
        go_wp2_with (go_at_call 134; (with_reducible refine (r_within _ _ _ _).mono ?_); rintro e w1 ⟨rfl, rfl⟩)
        go_ret
        exact ⟨rfl, HB.out⟩
      | true =>
        obtain ⟨h1, h2⟩ := inB_iff.1 h
        have HF := Lib.hid (fits_next (q := q) (k := 1) hf.out h1 h2)
        go_wp2_with (go_at_call 134; (with_reducible refine (r_within _ _ _ _).mono ?_); rintro e w1 ⟨rfl, rfl⟩)
        go_round
        case rel => exact ⟨2, by omega, rfl, int_eq (by simp only [pre] <;> omega), int_eq (by simp only [preW] <;> omega), HF⟩
        case measure => simp [intOf]
    · obtain ⟨p0, p1, p2, p3⟩ := pre_in (by omega) hf.out
      cases h : inB q.c2 0 64 with
      | false =>
        have hv2 := HV.out
        rw [chk_h H1.out H2.out (heap_c (k := 2) (by omega) h)] at hv2
        subst hv2
        go_wp2_with (go_at_call 134; (with_reducible refine (r_within _ _ _ _).mono ?_); rintro e w1 ⟨rfl, rfl⟩)
        go_ret
        exact ⟨rfl, HB.out⟩
      | true =>
        obtain ⟨h1, h2⟩ := inB_iff.1 h
        have HF := Lib.hid (fits_next (q := q) (k := 2) hf.out h1 h2)
        go_wp2_with (go_at_call 134; (with_reducible refine (r_within _ _ _ _).mono ?_); rintro e w1 ⟨rfl, rfl⟩)
        go_round
        case rel => exact ⟨3, by omega, rfl, int_eq (by simp only [pre] <;> omega), int_eq (by simp only [preW] <;> omega), HF⟩
        case measure => simp [intOf]
    · obtain ⟨p0, p1, p2, p3⟩ := pre_in (by omega) hf.out
      cases h : inB q.c3 0 64 with
      | false =>
        have hv2 := HV.out
        rw [chk_h H1.out H2.out (heap_c (k := 3) (by omega) h)] at hv2
        subst hv2
        go_wp2_with (go_at_call 134; (with_reducible refine (r_within _ _ _ _).mono ?_); rintro e w1 ⟨rfl, rfl⟩)
        go_ret
        exact ⟨rfl, HB.out⟩
      | true =>
        obtain ⟨h1, h2⟩ := inB_iff.1 h
        have HF := Lib.hid (fits_next (q := q) (k := 3) hf.out h1 h2)
        go_wp2_with (go_at_call 134; (with_reducible refine (r_within _ _ _ _).mono ?_); rintro e w1 ⟨rfl, rfl⟩)
        go_round
        case rel => exact ⟨4, by omega, rfl, int_eq (by simp only [pre] <;> omega), int_eq (by simp only [preW] <;> omega), HF⟩
        case measure => simp [intOf]
    · obtain ⟨p0, p1, p2, p3⟩ := pre_in (by omega) hf.out
      by_cases e1 : pre q 4 ≤ 64
      · cases hb : inB q.b 0 q.w with
        | false =>
          have hv2 := HV.out
          rw [chk_h H1.out H2.out (heap_f (fun h => by rw [hb] at h; cases h.2.1))] at hv2
          subst hv2
          go_wp2_with (go_at_call 134; (with_reducible refine (r_within _ _ _ _).mono ?_); rintro e w1 ⟨rfl, rfl⟩)
          go_ret
          exact ⟨rfl, HB.out⟩
        | true =>
          obtain ⟨b0, b1⟩ := inB_iff.1 hb
          by_cases e2 : q.b + preW q 4 ≤ q.w
          · have HH := Lib.hid (heap_t hf.out ⟨e1, hb, e2⟩)
            cases l0 : inB q.r 1 32 with
            | false =>
              have hv2 := HV.out
              rw [chk_l H1.out H2.out HH.out (by unfold logsB; rw [l0]; simp)] at hv2
              subst hv2
              go_wp2_with (go_at_call 134; (with_reducible refine (r_within _ _ _ _).mono ?_); rintro e w1 ⟨rfl, rfl⟩)
              go_ret
              exact ⟨rfl, HB.out⟩
            | true =>
            cases l1 : inB q.t 1 32 with
            | false =>
              have hv2 := HV.out
              rw [chk_l H1.out H2.out HH.out (by unfold logsB; rw [l1]; simp)] at hv2
              subst hv2
              go_wp2_with (go_at_call 134; (with_reducible refine (r_within _ _ _ _).mono ?_); rintro e w1 ⟨rfl, rfl⟩)
              go_ret
              exact ⟨rfl, HB.out⟩
            | true =>
            cases l2 : inB q.a 0 8 with
            | false =>
              have hv2 := HV.out
              rw [chk_l H1.out H2.out HH.out (by unfold logsB; rw [l2]; simp)] at hv2
              subst hv2
              go_wp2_with (go_at_call 134; (with_reducible refine (r_within _ _ _ _).mono ?_); rintro e w1 ⟨rfl, rfl⟩)
              go_ret
              exact ⟨rfl, HB.out⟩
            | true =>
            cases l3 : inB q.f 0 8 with
            | false =>
              have hv2 := HV.out
              rw [chk_l H1.out H2.out HH.out (by unfold logsB; rw [l3]; simp)] at hv2
              subst hv2
              go_wp2_with (go_at_call 134; (with_reducible refine (r_within _ _ _ _).mono ?_); rintro e w1 ⟨rfl, rfl⟩)
              go_ret
              exact ⟨rfl, HB.out⟩
            | true =>
            have HL := Lib.hid (show logsB q = true by unfold logsB; rw [l0, l1, l2, l3]; rfl)
            cases l4 : inB q.k 0 1099511627776 with
            | false =>
              have hv2 := HV.out
              rw [chk_k H1.out H2.out HH.out HL.out l4] at hv2
              subst hv2
              go_wp2_with (go_at_call 134; (with_reducible refine (r_within _ _ _ _).mono ?_); rintro e w1 ⟨rfl, rfl⟩)
              go_ret
              exact ⟨rfl, HB.out⟩
            | true =>
              have hv2 := HV.out
              rw [chk_0 H1.out H2.out HH.out HL.out l4] at hv2
              subst hv2
              go_wp2_with (go_at_call 134; (with_reducible refine (r_within _ _ _ _).mono ?_); rintro e w1 ⟨rfl, rfl⟩)
              go_ret
              exact ⟨rfl, HB.out⟩
          · have hv2 := HV.out
            rw [chk_h H1.out H2.out (heap_f (fun h => e2 h.2.2))] at hv2
            subst hv2
            go_wp2_with (go_at_call 134; (with_reducible refine (r_within _ _ _ _).mono ?_); rintro e w1 ⟨rfl, rfl⟩)
            go_ret
            exact ⟨rfl, HB.out⟩
      · have hv2 := HV.out
        rw [chk_h H1.out H2.out (heap_f (fun h => e1 h.1))] at hv2
        subst hv2
        go_wp2_with (go_at_call 134; (with_reducible refine (r_within _ _ _ _).mono ?_); rintro e w1 ⟨rfl, rfl⟩)
        go_ret
        exact ⟨rfl, HB.out⟩
end Go.Proofs.Ytpjbmbipkmpkhaa.LayC
