/-
  Contract of the reference of layer 7: Orec.
-/
import Derived.Test.YtnakmajnljpblaaLayH
import Derived.Deep.RegionLaw
namespace Go.Proofs.Ytnakmajnljpblaa.LayJ
open Go.ChangeShapes Go.WideShapes Go.ChangeAt Go.RowKit
open PlainT BlkW LayS LayA LayB LayC LayD LayE LayF LayG LayH
set_option linter.unusedVariables false
set_option maxHeartbeats 1000000

set_option maxRecDepth 100000 in
set_option maxHeartbeats 4000000 in
theorem r_orec (q : Cfg) (a : Int) (w : World) : Calls Try.prog 89 #[cfgV q, .int .i64 a] w fun e w' => e = .returned (.int .i64 (orcV q a)) ∧ Below w.heap.size w w' := by
  have hh0 := hq_new w q
  obtain ⟨v, hv⟩ : ∃ v, orcV q a = v := ⟨_, rfl⟩
  rw [hv]
  unfold orcV at hv
  have hck := r_check q
  have hbl := r_blocks q
  obtain ⟨n0, n1⟩ := blk_in q
  obtain ⟨c, hc⟩ : ∃ c, chkV q = c := ⟨_, rfl⟩
  obtain ⟨n, hn⟩ : ∃ n, blkV q = n := ⟨_, rfl⟩
  rw [hc, hn] at hv
  rw [hc] at hck
  rw [hn] at hbl n0 n1
  have HC := Lib.hid hc
  clear hc hn
  by_cases hc0 : c = 0
  · subst hc0
    have hval := chk_iff.1 HC.out
    unfold Valid at hval
    have o0 : 1 ≤ q.o := by omega
    have o1 : q.o ≤ 64 := by omega
    have w0 : 1 ≤ q.w := by omega
    have w1 : q.w ≤ 64 := by omega
    clear hval
    by_cases hin : 0 ≤ a ∧ a < q.w + n
    · rw [if_pos ⟨rfl, hin.1, hin.2⟩] at hv
      have HV := Lib.hid hv
      obtain ⟨i0, i1⟩ := hin
      have j1 : a ≤ 128 := by omega
      clear hv
      have h1 : IntKind.i64.wrap (q.w + n) = q.w + n := IntWalk.i64_in _ (by omega)
      have h2 : decide (a < 0) = false := by simpa using i0
      have h3 : decide (q.w + n ≤ a) = false := by simpa using i1
      go_enter Try.func89, Try.ntmps89
      go_wp2_with fail
      go_region_held3 (HeldQ w w.heap.size q) (first | exact heldq_drew hh0 | exact heldq_keep (by assumption) (by assumption)) (first | (go_at_call 81; (with_reducible refine (hck _).mono ?_); rintro e w2 ⟨rfl, hb2⟩) | (go_at_call 65; (with_reducible refine (hbl _).mono ?_); rintro e w3 ⟨rfl, hb3⟩))
      all_goals
        obtain ⟨d0, d1, d2, d3, d4, d5, d6, d7, d8, d9, d10, d11, d12, hq⟩ := (by assumption : HeldQ w w.heap.size q _)
        go_wp2
        go_ret
        exact ⟨ret_int HV.out, hq.2⟩
    · rw [if_neg (fun h => hin h.2)] at hv
      subst hv
      by_cases a0 : a < 0
      · have h2 : decide (a < 0) = true := by simpa using a0
        clear hin
        go_enter Try.func89, Try.ntmps89
        go_wp2_with fail
        first | go_region_law (go_simp; go_at_call 81; (with_reducible refine (hck _).mono ?_); rintro e w2 ⟨rfl, hb2⟩; have HB2 := Lib.hid (below_trans2 (below_drewN hh0.2 1) hb2); clear hb2) | fail
        all_goals
          go_wp2
          go_ret
          exact ⟨rfl, HB2.out⟩
      · have h1 : IntKind.i64.wrap (q.w + n) = q.w + n := IntWalk.i64_in _ (by omega)
        have h2 : decide (a < 0) = false := by simpa using a0
        have h3 : decide (q.w + n ≤ a) = true := by simp; omega
        clear hin
        go_enter Try.func89, Try.ntmps89
        go_wp2_with fail
        go_region_held3 (HeldQ w w.heap.size q) (first | exact heldq_drew hh0 | exact heldq_keep (by assumption) (by assumption)) (first | (go_at_call 81; (with_reducible refine (hck _).mono ?_); rintro e w2 ⟨rfl, hb2⟩) | (go_at_call 65; (with_reducible refine (hbl _).mono ?_); rintro e w3 ⟨rfl, hb3⟩))
        all_goals
          have hq := heldq_hq (by assumption : HeldQ w w.heap.size q _)
          go_wp2
          go_ret
          exact ⟨rfl, hq.2⟩
  · rw [if_neg (fun h => hc0 h.1)] at hv
    subst hv
    have hc1 : (c != 0) = true := by simpa using hc0
    go_enter Try.func89, Try.ntmps89
    go_wp2_with fail
    first | go_region_law (go_simp; go_at_call 81; (with_reducible refine (hck _).mono ?_); rintro e w2 ⟨rfl, hb2⟩; have HB2 := Lib.hid (below_trans2 (below_drewN hh0.2 1) hb2); clear hb2) | fail
    all_goals
      go_wp2
      go_ret
      exact ⟨rfl, HB2.out⟩
end Go.Proofs.Ytnakmajnljpblaa.LayJ
