/-
  Contract of the statements' own function: Config of strongtxmake.
-/
import Derived.Test.YtpjbmbipkmpkhaaLayK
namespace Go.Proofs.Ytpjbmbipkmpkhaa.LayP
open Go.ChangeShapes Go.WideShapes Go.ChangeAt Go.RowKit
open PlainT BlkW LayS LayA LayH LayK
set_option linter.unusedVariables false
set_option maxHeartbeats 1000000

/-- What Config makes. -/
def Made (q : Cfg) : Prop := 4 ≤ q.w ∧ q.w ≤ 12 ∧ 1 ≤ q.o ∧ q.o ≤ 8 ∧ q.b = 2 ∧ 0 ≤ q.c0 ∧ 0 ≤ q.c1 ∧ q.c2 = 0 ∧ q.c3 = 0 ∧ 2 + q.c0 + 2 * q.c1 ≤ q.w ∧ 1 ≤ q.r ∧ q.r ≤ 6 ∧ 1 ≤ q.t ∧ q.t ≤ 8 ∧ 0 ≤ q.a ∧ q.a ≤ 2 ∧ 0 ≤ q.f ∧ q.f ≤ 2 ∧ 0 ≤ q.k ∧ q.k ≤ 50
theorem made_valid {q : Cfg} (h : Made q) : Valid q := by
  unfold Made at h
  unfold Valid
  omega
def MadeCfg (w : World) (e : Ending) (w' : World) : Prop := ∃ q, e = .returned (cfgV q) ∧ Made q ∧ Below w.heap.size w w'
/-- What is held while Config runs: the two boxes. -/
def CC (w0 : World) (q : Cfg) (w : World) : Prop := Mem w (w0.heap.size + 1) TC (cells q) ∧ Mem w w0.heap.size TC (cells zeroC) ∧ Below w0.heap.size w0 w
theorem CC.drew {w0 w : World} {q : Cfg} (h : CC w0 q w) : CC w0 q w.drew := ⟨h.1, h.2.1, below_drewN h.2.2 1⟩
theorem CC.same {w0 w w' : World} {q : Cfg} (h : CC w0 q w) (hw : w = w') : CC w0 q w' := hw ▸ h
theorem CC.keep {w0 w w' : World} {q : Cfg} (h : CC w0 q w) (hb : Below w.heap.size w w') : CC w0 q w' := ⟨h.1.below hb h.1.lt, h.2.1.below hb h.2.1.lt, below_trans2 h.2.2 hb⟩
theorem cc_new (w : World) (q : Cfg) : CC w q ((w.alloc (.cells (cells zeroC) TC)).alloc (.cells (cells q) TC)) := ⟨mem_new1 _ _ _ _, (Mem.new _ _ _).alloc _, below_new2 _ _ _⟩
theorem CC.set0 {w0 w : World} {q : Cfg} (h : CC w0 q w) (v : Int) : CC w0 { q with c0 := v } (w.setCell ⟨w0.heap.size + 1, 3, none⟩ (.int .i64 v)) :=
  ⟨h.1.set_ 3 _, h.2.1.far (by show w0.heap.size ≠ w0.heap.size + 1; omega) _, h.2.2.setCell (by show w0.heap.size ≤ w0.heap.size + 1; omega) _⟩
theorem CC.set1 {w0 w : World} {q : Cfg} (h : CC w0 q w) (v : Int) : CC w0 { q with c1 := v } (w.setCell ⟨w0.heap.size + 1, 4, none⟩ (.int .i64 v)) :=
  ⟨h.1.set_ 4 _, h.2.1.far (by show w0.heap.size ≠ w0.heap.size + 1; omega) _, h.2.2.setCell (by show w0.heap.size ≤ w0.heap.size + 1; omega) _⟩
theorem place_below (a m : Int) (h0 : 0 < m) (h1 : m ≤ 1000) (w : World) : Calls Try.prog 12 #[.int .i64 a, .int .i64 m] w fun e w' => ∃ v, 0 ≤ v ∧ v ≤ m - 1 ∧ e = .returned (.int .i64 v) ∧ Below w.heap.size w w' :=
  (k_place_ex a m h0 h1 w).mono fun e w' ⟨v, h0, h1, h, hw⟩ => ⟨v, h0, h1, h, hw ▸ Below.refl _ _⟩
set_option maxRecDepth 100000 in
set_option maxHeartbeats 4000000 in
theorem l_config (a b c d e : Int) (w : World) : Calls Try.prog 68 #[.int .i64 a, .int .i64 b, .int .i64 c, .int .i64 d, .int .i64 e] w fun e w' => MadeCfg w e w' := by
  go_enter Try.func68, Try.ntmps68
  go_wp2_with fail
  refine (k_place_ex _ _ (by omega) (by omega) _).mono ?_
  rintro e w1 ⟨p0, l0, h0, rfl, rfl⟩
  simp only [Int.reduceSub] at h0
  go_wp2_with fail
  refine (k_place_ex _ _ (by omega) (by omega) _).mono ?_
  rintro e w1 ⟨p1, l1, h1, rfl, rfl⟩
  simp only [Int.reduceSub] at h1
  go_wp2_with fail
  refine (k_place_ex _ _ (by omega) (by omega) _).mono ?_
  rintro e w1 ⟨p2, l2, h2, rfl, rfl⟩
  simp only [Int.reduceSub] at h2
  go_wp2_with fail
  refine (k_place_ex _ _ (by omega) (by omega) _).mono ?_
  rintro e w1 ⟨p3, l3, h3, rfl, rfl⟩
  simp only [Int.reduceSub] at h3
  go_wp2_with fail
  refine (k_place_ex _ _ (by omega) (by omega) _).mono ?_
  rintro e w1 ⟨p4, l4, h4, rfl, rfl⟩
  simp only [Int.reduceSub] at h4
  go_wp2_with fail
  refine (k_place_ex _ _ (by omega) (by omega) _).mono ?_
  rintro e w1 ⟨p5, l5, h5, rfl, rfl⟩
  simp only [Int.reduceSub] at h5
  go_wp2_with fail
  refine (k_place_ex _ _ (by omega) (by omega) _).mono ?_
  rintro e w1 ⟨p6, l6, h6, rfl, rfl⟩
  have hcase : ∀ p7 : Int, 0 ≤ p7 → p7 ≤ 50 → True := fun _ _ _ => trivial
  by_cases hz : p6 = 0
  · subst hz
    go_wp2_with fail
    refine (k_place_ex _ _ (by omega) (by omega) _).mono ?_
    rintro e w1 ⟨p7, l7, h7, rfl, rfl⟩
    go_wp2_with fail
    have hcc := cc_new w ⟨4 + p0, 1 + p1, 2, 0, 0, 0, 0, 1 + p2, 1 + p3, p4, p5, p7, false⟩
    go_loopw [12, 13] (fun lv kv wr => ∃ (k : Int) (l c0 c1 : Int), (k = 0 ∨ k = 1 ∨ k = 2) ∧ kv = .int .i64 k ∧ lv = .int .i64 l ∧ 0 ≤ l ∧ 0 ≤ c0 ∧ 0 ≤ c1 ∧ 2 + c0 + 2 * c1 + l = 4 + p0 ∧ (k = 0 → c0 = 0 ∧ c1 = 0) ∧ (k = 1 → c1 = 0) ∧ CC w ⟨4 + p0, 1 + p1, 2, c0, c1, 0, 0, 1 + p2, 1 + p3, p4, p5, p7, false⟩ wr) (fun _ kv _ => 2 - (intOf kv).toNat)
    case atStart => exact ⟨0, _, 0, 0, .inl rfl, rfl, rfl, by omega, by omega, by omega, by omega, fun _ => ⟨rfl, rfl⟩, (fun h => by cases h), hcc⟩
    case round =>
      obtain ⟨k, l, c0, c1, hk, rfl, rfl, hl0, hc0, hc1, hsum, hk0, hk1, hcr⟩ := hrel
      have HS := Lib.hid hsum
      clear hcc hcase hsum
      have hl1 : l ≤ 12 := by have := HS.out; omega
      rcases hk with rfl | rfl | rfl
      · obtain ⟨rfl, rfl⟩ := hk0 rfl
        clear hk0 hk1
        have q1 : IntKind.i64.wrap 0 = 0 := rfl
        have q2 : IntKind.i64.wrap 9 = 9 := rfl
        have q3 : IntKind.i64.wrap (l + 1) = l + 1 := IntWalk.i64_in _ (by omega)
        go_wp2_with fail
        go_region_held3 (CC w ⟨4 + p0, 1 + p1, 2, 0, 0, 0, 0, 1 + p2, 1 + p3, p4, p5, p7, false⟩) (first | exact hcr.drew | exact CC.keep (by assumption) (by assumption)) ((go_at_call 12; (with_reducible refine (place_below _ _ (by omega) (by omega) _).mono ?_); rintro e w2 ⟨n, n0, n1, rfl, hb2⟩))
        all_goals
          have hc2 := (by assumption : CC w ⟨4 + p0, 1 + p1, 2, 0, 0, 0, 0, 1 + p2, 1 + p3, p4, p5, p7, false⟩ _)
          obtain ⟨d0, d1, d2, d3, d4, d5, d6, d7, d8, d9, d10, d11, d12⟩ := box_cells hc2.1
          have hfr := hc2.1.frozen 3
          have hlt := hc2.1.lt
          clear hcr
          by_cases hn : n ≤ 2
          · have hs0 := CC.set0 hc2 n
            go_wp2_with fail
            go_roundw
            case rel => exact ⟨1, l - n, n, 0, .inr (.inl rfl), rfl, rfl, by omega, n0, by omega, by have := HS.out; omega, (fun h => by cases h), (fun _ => rfl), hs0⟩
            case measure => simp [intOf]
          · have hs0 := CC.set0 hc2 2
            go_wp2_with fail
            go_roundw
            case rel => exact ⟨1, l - 2, 2, 0, .inr (.inl rfl), rfl, rfl, by omega, by omega, by omega, by have := HS.out; omega, (fun h => by cases h), (fun _ => rfl), hs0⟩
            case measure => simp [intOf]
      · obtain rfl := hk1 rfl
        clear hk0 hk1
        have q1 : IntKind.i64.wrap 20 = 20 := rfl
        have q2 : IntKind.i64.wrap 29 = 29 := rfl
        have q3 : IntKind.i64.wrap (l / 2 + 1) = l / 2 + 1 := IntWalk.i64_in _ (by omega)
        go_wp2_with fail
        go_region_held3 (CC w ⟨4 + p0, 1 + p1, 2, c0, 0, 0, 0, 1 + p2, 1 + p3, p4, p5, p7, false⟩) (first | exact hcr.drew | exact CC.keep (by assumption) (by assumption)) ((go_at_call 12; (with_reducible refine (place_below _ _ (by omega) (by omega) _).mono ?_); rintro e w2 ⟨n, n0, n1, rfl, hb2⟩))
        all_goals
          have hc2 := (by assumption : CC w ⟨4 + p0, 1 + p1, 2, c0, 0, 0, 0, 1 + p2, 1 + p3, p4, p5, p7, false⟩ _)
          obtain ⟨d0, d1, d2, d3, d4, d5, d6, d7, d8, d9, d10, d11, d12⟩ := box_cells hc2.1
          have hfr := hc2.1.frozen 4
          have hlt := hc2.1.lt
          clear hcr
          by_cases hn : n ≤ 2
          · have hs0 := CC.set1 hc2 n
            go_wp2_with fail
            go_roundw
            case rel => exact ⟨2, l - n * 2, c0, n, .inr (.inr rfl), rfl, rfl, by omega, hc0, n0, by have := HS.out; omega, (fun h => by cases h), (fun h => by cases h), hs0⟩
            case measure => simp [intOf]
          · have hs0 := CC.set1 hc2 2
            go_wp2_with fail
            go_roundw
            case rel => exact ⟨2, l - 4, c0, 2, .inr (.inr rfl), rfl, rfl, by omega, hc0, by omega, by have := HS.out; omega, (fun h => by cases h), (fun h => by cases h), hs0⟩
            case measure => simp [intOf]
      · obtain ⟨d0, d1, d2, d3, d4, d5, d6, d7, d8, d9, d10, d11, d12⟩ := box_cells hcr.1
        obtain ⟨f0, f1, f2, f3, f4, f5, f6, f7, f8, f9, f10, f11, f12⟩ := box_cells hcr.2.1
        have hlt := hcr.1.lt
        have fr := hcr.2.1.frozen
        go_wp2_with fail
        refine bodyPost_ret (v := cfgV ⟨4 + p0, 1 + p1, 2, c0, c1, 0, 0, 1 + p2, 1 + p3, p4, p5, p7, false⟩) (by simp [results, Try.results68, go_sem, f0, f1, f2, f3, f4, f5, f6, f7, f8, f9, f10, f11, f12]) rfl ⟨_, rfl, ?_, ?_⟩
        · have := HS.out
          refine ⟨?_, ?_, ?_, ?_, ?_, ?_, ?_, ?_, ?_, ?_, ?_, ?_, ?_, ?_, ?_, ?_, ?_, ?_, ?_, ?_⟩ <;> simp only <;> omega
        · iterate 13 refine Below.setCell ?_ (show w.heap.size ≤ w.heap.size from Nat.le_refl _) _
          exact hcr.2.2
  · have hz2 : (p6 == 0) = false := beq_eq_false_iff_ne.2 hz
    go_wp2_with fail
    have hcc := cc_new w ⟨4 + p0, 1 + p1, 2, 0, 0, 0, 0, 1 + p2, 1 + p3, p4, p5, 50, false⟩
    go_loopw [12, 13] (fun lv kv wr => ∃ (k : Int) (l c0 c1 : Int), (k = 0 ∨ k = 1 ∨ k = 2) ∧ kv = .int .i64 k ∧ lv = .int .i64 l ∧ 0 ≤ l ∧ 0 ≤ c0 ∧ 0 ≤ c1 ∧ 2 + c0 + 2 * c1 + l = 4 + p0 ∧ (k = 0 → c0 = 0 ∧ c1 = 0) ∧ (k = 1 → c1 = 0) ∧ CC w ⟨4 + p0, 1 + p1, 2, c0, c1, 0, 0, 1 + p2, 1 + p3, p4, p5, 50, false⟩ wr) (fun _ kv _ => 2 - (intOf kv).toNat)
    case atStart => exact ⟨0, _, 0, 0, .inl rfl, rfl, rfl, by omega, by omega, by omega, by omega, fun _ => ⟨rfl, rfl⟩, (fun h => by cases h), hcc⟩
    case round =>
      obtain ⟨k, l, c0, c1, hk, rfl, rfl, hl0, hc0, hc1, hsum, hk0, hk1, hcr⟩ := hrel
      have HS := Lib.hid hsum
      clear hcc hcase hsum
      have hl1 : l ≤ 12 := by have := HS.out; omega
      rcases hk with rfl | rfl | rfl
      · obtain ⟨rfl, rfl⟩ := hk0 rfl
        clear hk0 hk1
        have q1 : IntKind.i64.wrap 0 = 0 := rfl
        have q2 : IntKind.i64.wrap 9 = 9 := rfl
        have q3 : IntKind.i64.wrap (l + 1) = l + 1 := IntWalk.i64_in _ (by omega)
        go_wp2_with fail
        go_region_held3 (CC w ⟨4 + p0, 1 + p1, 2, 0, 0, 0, 0, 1 + p2, 1 + p3, p4, p5, 50, false⟩) (first | exact hcr.drew | exact CC.keep (by assumption) (by assumption)) ((go_at_call 12; (with_reducible refine (place_below _ _ (by omega) (by omega) _).mono ?_); rintro e w2 ⟨n, n0, n1, rfl, hb2⟩))
        all_goals
          have hc2 := (by assumption : CC w ⟨4 + p0, 1 + p1, 2, 0, 0, 0, 0, 1 + p2, 1 + p3, p4, p5, 50, false⟩ _)
          obtain ⟨d0, d1, d2, d3, d4, d5, d6, d7, d8, d9, d10, d11, d12⟩ := box_cells hc2.1
          have hfr := hc2.1.frozen 3
          have hlt := hc2.1.lt
          clear hcr
          by_cases hn : n ≤ 2
          · have hs0 := CC.set0 hc2 n
            go_wp2_with fail
            go_roundw
            case rel => exact ⟨1, l - n, n, 0, .inr (.inl rfl), rfl, rfl, by omega, n0, by omega, by have := HS.out; omega, (fun h => by cases h), (fun _ => rfl), hs0⟩
            case measure => simp [intOf]
          · have hs0 := CC.set0 hc2 2
            go_wp2_with fail
            go_roundw
            case rel => exact ⟨1, l - 2, 2, 0, .inr (.inl rfl), rfl, rfl, by omega, by omega, by omega, by have := HS.out; omega, (fun h => by cases h), (fun _ => rfl), hs0⟩
            case measure => simp [intOf]
      · obtain rfl := hk1 rfl
        clear hk0 hk1
        have q1 : IntKind.i64.wrap 20 = 20 := rfl
        have q2 : IntKind.i64.wrap 29 = 29 := rfl
        have q3 : IntKind.i64.wrap (l / 2 + 1) = l / 2 + 1 := IntWalk.i64_in _ (by omega)
        go_wp2_with fail
        go_region_held3 (CC w ⟨4 + p0, 1 + p1, 2, c0, 0, 0, 0, 1 + p2, 1 + p3, p4, p5, 50, false⟩) (first | exact hcr.drew | exact CC.keep (by assumption) (by assumption)) ((go_at_call 12; (with_reducible refine (place_below _ _ (by omega) (by omega) _).mono ?_); rintro e w2 ⟨n, n0, n1, rfl, hb2⟩))
        all_goals
          have hc2 := (by assumption : CC w ⟨4 + p0, 1 + p1, 2, c0, 0, 0, 0, 1 + p2, 1 + p3, p4, p5, 50, false⟩ _)
          obtain ⟨d0, d1, d2, d3, d4, d5, d6, d7, d8, d9, d10, d11, d12⟩ := box_cells hc2.1
          have hfr := hc2.1.frozen 4
          have hlt := hc2.1.lt
          clear hcr
          by_cases hn : n ≤ 2
          · have hs0 := CC.set1 hc2 n
            go_wp2_with fail
            go_roundw
            case rel => exact ⟨2, l - n * 2, c0, n, .inr (.inr rfl), rfl, rfl, by omega, hc0, n0, by have := HS.out; omega, (fun h => by cases h), (fun h => by cases h), hs0⟩
            case measure => simp [intOf]
          · have hs0 := CC.set1 hc2 2
            go_wp2_with fail
            go_roundw
            case rel => exact ⟨2, l - 4, c0, 2, .inr (.inr rfl), rfl, rfl, by omega, hc0, by omega, by have := HS.out; omega, (fun h => by cases h), (fun h => by cases h), hs0⟩
            case measure => simp [intOf]
      · obtain ⟨d0, d1, d2, d3, d4, d5, d6, d7, d8, d9, d10, d11, d12⟩ := box_cells hcr.1
        obtain ⟨f0, f1, f2, f3, f4, f5, f6, f7, f8, f9, f10, f11, f12⟩ := box_cells hcr.2.1
        have hlt := hcr.1.lt
        have fr := hcr.2.1.frozen
        go_wp2_with fail
        refine bodyPost_ret (v := cfgV ⟨4 + p0, 1 + p1, 2, c0, c1, 0, 0, 1 + p2, 1 + p3, p4, p5, 50, false⟩) (by simp [results, Try.results68, go_sem, f0, f1, f2, f3, f4, f5, f6, f7, f8, f9, f10, f11, f12]) rfl ⟨_, rfl, ?_, ?_⟩
        · have := HS.out
          refine ⟨?_, ?_, ?_, ?_, ?_, ?_, ?_, ?_, ?_, ?_, ?_, ?_, ?_, ?_, ?_, ?_, ?_, ?_, ?_, ?_⟩ <;> simp only <;> omega
        · iterate 13 refine Below.setCell ?_ (show w.heap.size ≤ w.heap.size from Nat.le_refl _) _
          exact hcr.2.2
end Go.Proofs.Ytpjbmbipkmpkhaa.LayP
