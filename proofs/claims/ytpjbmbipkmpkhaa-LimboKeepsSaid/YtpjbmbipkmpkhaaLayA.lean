/-
  Contracts of package layout: within, heapFits, logsFit, Check; and of its reference: within, Check.
-/
import Derived.Test.YtpjbmbipkmpkhaaRows
import Derived.ProofKit
import Derived.OpenShut
import Derived.WalkLawsBesides
import Derived.Test.YtpjbmbipkmpkhaaBlk
import Derived.Test.YtpjbmbipkmpkhaaLayS
import Derived.Lib.Hide
import Derived.Deep.QuietTactic
import Derived.BigQuiet
import Derived.Deep.Draws
import Derived.Deep.DeepCutAuto
namespace Go.Proofs.Ytpjbmbipkmpkhaa.LayA
open Go.ChangeShapes Go.WideShapes Go.ChangeAt Go.RowKit
open PlainT BlkW LayS
set_option linter.unusedVariables false
set_option maxHeartbeats 1000000

abbrev TC : TypeId := 43
theorem box_cells {w : World} {g : Nat} {q : Cfg} (h : Mem w g TC (cells q)) :
    w.cell? ⟨g, 0, none⟩ = some (.int .i64 q.w) ∧ w.cell? ⟨g, 1, none⟩ = some (.int .i64 q.o) ∧ w.cell? ⟨g, 2, none⟩ = some (.int .i64 q.b) ∧ w.cell? ⟨g, 3, none⟩ = some (.int .i64 q.c0) ∧ w.cell? ⟨g, 4, none⟩ = some (.int .i64 q.c1) ∧ w.cell? ⟨g, 5, none⟩ = some (.int .i64 q.c2) ∧ w.cell? ⟨g, 6, none⟩ = some (.int .i64 q.c3) ∧
    w.cell? ⟨g, 7, none⟩ = some (.int .i64 q.r) ∧ w.cell? ⟨g, 8, none⟩ = some (.int .i64 q.t) ∧ w.cell? ⟨g, 9, none⟩ = some (.int .i64 q.a) ∧ w.cell? ⟨g, 10, none⟩ = some (.int .i64 q.f) ∧ w.cell? ⟨g, 11, none⟩ = some (.int .i64 q.k) ∧ w.cell? ⟨g, 12, none⟩ = some (.bool q.s) :=
  ⟨h.cell 0, h.cell 1, h.cell 2, h.cell 3, h.cell 4, h.cell 5, h.cell 6, h.cell 7, h.cell 8, h.cell 9, h.cell 10, h.cell 11, h.cell 12⟩

theorem a_within (n lo hi : Int) (w : World) : Calls Try.prog 121 #[.int .i64 n, .int .i64 lo, .int .i64 hi] w fun e w' => e = .returned (.bool (inB n lo hi)) ∧ w = w' := by
  obtain ⟨v, hv⟩ : ∃ v, inB n lo hi = v := ⟨_, rfl⟩
  rw [hv]
  unfold inB at hv
  by_cases h1 : lo ≤ n
  · by_cases h2 : n ≤ hi
    · obtain rfl : v = true := by rw [← hv]; simp [h1, h2]
      clear hv
      go_enter Try.func121, Try.ntmps121
      go_wp2
      go_ret
      exact ⟨rfl, rfl⟩
    · obtain rfl : v = false := by rw [← hv]; simp [h1, h2]
      clear hv
      go_enter Try.func121, Try.ntmps121
      go_wp2
      go_ret
      exact ⟨rfl, rfl⟩
  · obtain rfl : v = false := by rw [← hv]; simp [h1]
    clear hv
    go_enter Try.func121, Try.ntmps121
    go_wp2
    go_ret
    exact ⟨rfl, rfl⟩
theorem r_within (n lo hi : Int) (w : World) : Calls Try.prog 134 #[.int .i64 n, .int .i64 lo, .int .i64 hi] w fun e w' => e = .returned (.bool (inB n lo hi)) ∧ w = w' := by
  obtain ⟨v, hv⟩ : ∃ v, inB n lo hi = v := ⟨_, rfl⟩
  rw [hv]
  unfold inB at hv
  by_cases h1 : lo ≤ n
  · by_cases h2 : n ≤ hi
    · obtain rfl : v = true := by rw [← hv]; simp [h1, h2]
      clear hv
      go_enter Try.func134, Try.ntmps134
      go_wp2
      go_ret
      exact ⟨rfl, rfl⟩
    · obtain rfl : v = false := by rw [← hv]; simp [h1, h2]
      clear hv
      go_enter Try.func134, Try.ntmps134
      go_wp2
      go_ret
      exact ⟨rfl, rfl⟩
  · obtain rfl : v = false := by rw [← hv]; simp [h1]
    clear hv
    go_enter Try.func134, Try.ntmps134
    go_wp2
    go_ret
    exact ⟨rfl, rfl⟩
theorem a_logs (q : Cfg) (w : World) : Calls Try.prog 123 #[cfgV q] w fun e w' => e = .returned (.bool (logsB q)) ∧ Below w.heap.size w w' := by
  obtain ⟨v, hv⟩ : ∃ v, logsB q = v := ⟨_, rfl⟩
  rw [hv]
  unfold logsB at hv
  cases h1 : inB q.r 1 32 <;> cases h2 : inB q.t 1 32 <;> cases h3 : inB q.a 0 8
  all_goals
    rw [h1, h2, h3] at hv
    simp only [Bool.and_true, Bool.and_false, Bool.true_and, Bool.false_and] at hv
    subst hv
    go_enter Try.func123, Try.ntmps123
    go_wp2_with (go_at_call 121; (with_reducible refine (a_within _ _ _ _).mono ?_); rintro e w1 ⟨rfl, rfl⟩)
    go_ret
    exact ⟨rfl, below_new _ _⟩
/-- Each of the first k numbers is in range. -/
def fits (q : Cfg) : Nat → Prop
  | 0 => True
  | 1 => 0 ≤ q.c0 ∧ q.c0 ≤ 64
  | 2 => 0 ≤ q.c0 ∧ q.c0 ≤ 64 ∧ 0 ≤ q.c1 ∧ q.c1 ≤ 64
  | 3 => 0 ≤ q.c0 ∧ q.c0 ≤ 64 ∧ 0 ≤ q.c1 ∧ q.c1 ≤ 64 ∧ 0 ≤ q.c2 ∧ q.c2 ≤ 64
  | _ => 0 ≤ q.c0 ∧ q.c0 ≤ 64 ∧ 0 ≤ q.c1 ∧ q.c1 ≤ 64 ∧ 0 ≤ q.c2 ∧ q.c2 ≤ 64 ∧ 0 ≤ q.c3 ∧ q.c3 ≤ 64
theorem pre_in {q : Cfg} {k : Nat} (hk : k ≤ 4) (h : fits q k) : 0 ≤ pre q k ∧ pre q k ≤ 256 ∧ 0 ≤ preW q k ∧ preW q k ≤ 960 := by
  have hk' : k = 0 ∨ k = 1 ∨ k = 2 ∨ k = 3 ∨ k = 4 := by omega
  rcases hk' with rfl | rfl | rfl | rfl | rfl <;> simp only [fits] at h <;> simp only [pre, preW] <;> omega
def cnt (q : Cfg) : Nat → Int
  | 0 => q.c0
  | 1 => q.c1
  | 2 => q.c2
  | _ => q.c3
theorem fits_next {q : Cfg} {k : Nat} (h : fits q k) (h1 : 0 ≤ cnt q k) (h2 : cnt q k ≤ 64) : fits q (k + 1) := by
  match k, h with
  | 0, h => simp only [fits, cnt] at *; omega
  | 1, h => simp only [fits, cnt] at *; omega
  | 2, h => simp only [fits, cnt] at *; omega
  | 3, h => simp only [fits, cnt] at *; omega
  | k + 4, h => simp only [fits, cnt] at *; omega
theorem int_eq {a b : Int} (h : a = b) : Value.int .i64 a = Value.int .i64 b := by rw [h]
theorem idx0 (a b c d : Int) : ∀ w, (Instr.index 41 (.agg #[.int .i64 a, .int .i64 b, .int .i64 c, .int .i64 d]) (.int .i64 0)).run Try.prog w = .ok (.int .i64 a) w := fun _ => by kernel_rfl
theorem idx1 (a b c d : Int) : ∀ w, (Instr.index 41 (.agg #[.int .i64 a, .int .i64 b, .int .i64 c, .int .i64 d]) (.int .i64 1)).run Try.prog w = .ok (.int .i64 b) w := fun _ => by kernel_rfl
theorem idx2 (a b c d : Int) : ∀ w, (Instr.index 41 (.agg #[.int .i64 a, .int .i64 b, .int .i64 c, .int .i64 d]) (.int .i64 2)).run Try.prog w = .ok (.int .i64 c) w := fun _ => by kernel_rfl
theorem idx3 (a b c d : Int) : ∀ w, (Instr.index 41 (.agg #[.int .i64 a, .int .i64 b, .int .i64 c, .int .i64 d]) (.int .i64 3)).run Try.prog w = .ok (.int .i64 d) w := fun _ => by kernel_rfl
set_option maxRecDepth 100000 in
theorem a_heap (q : Cfg) (hw0 : 1 ≤ q.w) (hw1 : q.w ≤ 64) (w : World) : Calls Try.prog 122 #[cfgV q] w fun e w' => e = .returned (.bool (heapB q)) ∧ Below w.heap.size w w' := by
  obtain ⟨v, hv⟩ : ∃ v, heapB q = v := ⟨_, rfl⟩
  rw [hv]
  cases hb : inB q.b 0 q.w with
  | false =>
    unfold heapB at hv
    rw [hb] at hv
    simp only [Bool.false_and] at hv
    subst hv
    go_enter Try.func122, Try.ntmps122
    go_wp2_with (go_at_call 121; (with_reducible refine (a_within _ _ _ _).mono ?_); rintro e w1 ⟨rfl, rfl⟩)
    go_ret
    exact ⟨rfl, below_new _ _⟩
  | true =>
    have HV := Lib.hid hv
    have hb2 := inB_iff.1 hb
    obtain ⟨hb3, hb4⟩ := hb2
    have j0 := idx0 q.c0 q.c1 q.c2 q.c3
    have j1 := idx1 q.c0 q.c1 q.c2 q.c3
    have j2 := idx2 q.c0 q.c1 q.c2 q.c3
    have j3 := idx3 q.c0 q.c1 q.c2 q.c3
    clear hv
    go_enter Try.func122, Try.ntmps122
    go_wp2_with (go_at_call 121; (with_reducible refine (a_within _ _ _ _).mono ?_); rintro e w1 ⟨rfl, rfl⟩)
    go_quiet (fail)
    go_wp2
    go_loop [3, 4, 17] (fun bl en kv => ∃ k : Nat, k ≤ 4 ∧ kv = .int .i64 k ∧ bl = .int .i64 (pre q k) ∧ en = .int .i64 (q.b + preW q k) ∧ Hid (fits q k)) (fun _ _ kv => 4 - (intOf kv).toNat)
    case atStart => exact ⟨0, by omega, rfl, rfl, by simp [preW], Lib.hid trivial⟩
    case round =>
      obtain ⟨k, hk, rfl, rfl, rfl, hf⟩ := hrel
      have hk' : k = 0 ∨ k = 1 ∨ k = 2 ∨ k = 3 ∨ k = 4 := by omega
      rcases hk' with rfl | rfl | rfl | rfl | rfl
      · obtain ⟨p0, p1, p2, p3⟩ := pre_in (by omega) hf.out
        cases h : inB q.c0 0 64 with
        | false =>
          have hv2 : v = false := by
            rw [← HV.out]
            unfold heapB
            rw [h]
            simp
          subst hv2
          go_wp2_with (go_at_call 121; (with_reducible refine (a_within _ _ _ _).mono ?_); rintro e w1 ⟨rfl, rfl⟩)
          go_ret
          exact ⟨rfl, below_drewN (below_new _ _) _⟩
        | true =>
          obtain ⟨h1, h2⟩ := inB_iff.1 h
          have HF := Lib.hid (fits_next (q := q) (k := 0) hf.out h1 h2)
          go_wp2_with (go_at_call 121; (with_reducible refine (a_within _ _ _ _).mono ?_); rintro e w1 ⟨rfl, rfl⟩)
          go_round
          case rel => exact ⟨1, by omega, rfl, int_eq (by simp only [pre] <;> omega), int_eq (by simp only [preW] <;> omega), HF⟩
          case measure => simp [intOf]
      · obtain ⟨p0, p1, p2, p3⟩ := pre_in (by omega) hf.out
        cases h : inB q.c1 0 64 with
        | false =>
          have hv2 : v = false := by
            rw [← HV.out]
            unfold heapB
            rw [h]
            simp
          subst hv2
          go_wp2_with (go_at_call 121; (with_reducible refine (a_within _ _ _ _).mono ?_); rintro e w1 ⟨rfl, rfl⟩)
          go_ret
          exact ⟨rfl, below_drewN (below_new _ _) _⟩
        | true =>
          obtain ⟨h1, h2⟩ := inB_iff.1 h
          have HF := Lib.hid (fits_next (q := q) (k := 1) hf.out h1 h2)
          go_wp2_with (go_at_call 121; (with_reducible refine (a_within _ _ _ _).mono ?_); rintro e w1 ⟨rfl, rfl⟩)
          go_round
          case rel => exact ⟨2, by omega, rfl, int_eq (by simp only [pre] <;> omega), int_eq (by simp only [preW] <;> omega), HF⟩
          case measure => simp [intOf]
      · obtain ⟨p0, p1, p2, p3⟩ := pre_in (by omega) hf.out
        cases h : inB q.c2 0 64 with
        | false =>
          have hv2 : v = false := by
            rw [← HV.out]
            unfold heapB
            rw [h]
            simp
          subst hv2
          go_wp2_with (go_at_call 121; (with_reducible refine (a_within _ _ _ _).mono ?_); rintro e w1 ⟨rfl, rfl⟩)
          go_ret
          exact ⟨rfl, below_drewN (below_new _ _) _⟩
        | true =>
          obtain ⟨h1, h2⟩ := inB_iff.1 h
          have HF := Lib.hid (fits_next (q := q) (k := 2) hf.out h1 h2)
          go_wp2_with (go_at_call 121; (with_reducible refine (a_within _ _ _ _).mono ?_); rintro e w1 ⟨rfl, rfl⟩)
          go_round
          case rel => exact ⟨3, by omega, rfl, int_eq (by simp only [pre] <;> omega), int_eq (by simp only [preW] <;> omega), HF⟩
          case measure => simp [intOf]
      · obtain ⟨p0, p1, p2, p3⟩ := pre_in (by omega) hf.out
        cases h : inB q.c3 0 64 with
        | false =>
          have hv2 : v = false := by
            rw [← HV.out]
            unfold heapB
            rw [h]
            simp
          subst hv2
          go_wp2_with (go_at_call 121; (with_reducible refine (a_within _ _ _ _).mono ?_); rintro e w1 ⟨rfl, rfl⟩)
          go_ret
          exact ⟨rfl, below_drewN (below_new _ _) _⟩
        | true =>
          obtain ⟨h1, h2⟩ := inB_iff.1 h
          have HF := Lib.hid (fits_next (q := q) (k := 3) hf.out h1 h2)
          go_wp2_with (go_at_call 121; (with_reducible refine (a_within _ _ _ _).mono ?_); rintro e w1 ⟨rfl, rfl⟩)
          go_round
          case rel => exact ⟨4, by omega, rfl, int_eq (by simp only [pre] <;> omega), int_eq (by simp only [preW] <;> omega), HF⟩
          case measure => simp [intOf]
      · obtain ⟨p0, p1, p2, p3⟩ := pre_in (by omega) hf.out
        have hf' := hf.out
        simp only [fits] at hf'
        have hv2 := HV.out
        unfold heapB at hv2
        rw [hb, (inB_iff.2 ⟨hf'.1, hf'.2.1⟩ : inB q.c0 0 64 = true), (inB_iff.2 ⟨hf'.2.2.1, hf'.2.2.2.1⟩ : inB q.c1 0 64 = true), (inB_iff.2 ⟨hf'.2.2.2.2.1, hf'.2.2.2.2.2.1⟩ : inB q.c2 0 64 = true), (inB_iff.2 ⟨hf'.2.2.2.2.2.2.1, hf'.2.2.2.2.2.2.2⟩ : inB q.c3 0 64 = true)] at hv2
        simp only [Bool.true_and] at hv2
        by_cases e1 : pre q 4 ≤ 64
        · by_cases e2 : q.b + preW q 4 ≤ q.w
          · have hv3 : v = true := by
              rw [← hv2, decide_eq_true (show q.c0 + q.c1 + q.c2 + q.c3 ≤ 64 from e1), decide_eq_true (by simp only [preW] at e2; omega)]
              rfl
            subst hv3
            clear hf' hv2 hf
            go_wp2
            go_ret
            exact ⟨rfl, below_drewN (below_new _ _) _⟩
          · have hv3 : v = false := by
              rw [← hv2, decide_eq_false (p := q.b + q.c0 + 2 * q.c1 + 4 * q.c2 + 8 * q.c3 ≤ q.w) (by simp only [preW] at e2; omega)]
              simp
            subst hv3
            clear hf' hv2 hf
            go_wp2
            go_ret
            exact ⟨rfl, below_drewN (below_new _ _) _⟩
        · have hv3 : v = false := by
            rw [← hv2, decide_eq_false (show ¬ q.c0 + q.c1 + q.c2 + q.c3 ≤ 64 from e1)]
            simp
          subst hv3
          clear hf' hv2 hf
          go_wp2
          go_ret
          exact ⟨rfl, below_drewN (below_new _ _) _⟩
end Go.Proofs.Ytpjbmbipkmpkhaa.LayA
