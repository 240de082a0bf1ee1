/-
  The reference's NewLog and Clear; the check that the laws of layer 13 run at their ends.
-/
import Derived.Test.YtelpimhgodkmlaaRlD
namespace Go.Proofs.Ytelpimhgodkmlaa.RlE
open Go.ChangeShapes Go.WideShapes Go.ChangeAt Go.RowKit
open PlainT BlkW CelS CelM CelV CelN LabD FreV FreI RsA RlU RlP RlA RlB RlC RlD
set_option linter.unusedVariables false
set_option maxHeartbeats 1000000
set_option maxRecDepth 100000
abbrev nilV : Value := .slice none 0 0
theorem r_clear (w : World) (B : Nat) (n g : Nat) (hM : Mem w g TK #[.int .i64 n, nilV, nilV, nilV]) (hg : B ≤ g) (hn : n ≤ 32) : Calls Try.prog 25 #[.pointer (some ⟨g, 0, none⟩)] w fun e w' => e = .returned (.tuple #[]) ∧ ∃ vi, LogR w' B TK n ⟨g, nilV, nilV, vi⟩ [] [] (List.replicate (siz n) (-1)) ∧ Fr (fun y => B ≤ y) w w' := by
  have hnI : (n : Int) ≤ 32 := by omega
  have b0 : w.cell? ⟨g, 0, none⟩ = some (.int .i64 n) := hM.cell 0
  have b1 : w.cell? ⟨g, 1, none⟩ = some nilV := hM.cell 1
  have b2 : w.cell? ⟨g, 2, none⟩ = some nilV := hM.cell 2
  have b3 : w.cell? ⟨g, 3, none⟩ = some nilV := hM.cell 3
  have z1 := hM.frozen 1
  have z2 := hM.frozen 2
  have z3 := hM.frozen 3
  have hM2 := ((hM.set_ 1 nilV).set_ 2 nilV).set_ 3 nilV
  have hF2 := (((Fr.refl (fun y => B ≤ y) w).set_ ⟨g, 1, none⟩ (.inl hg) nilV).set_ ⟨g, 2, none⟩ (.inl hg) nilV).set_ ⟨g, 3, none⟩ (.inl hg) nilV
  have HR : Hid (LogR (((w.setCell ⟨g, 1, none⟩ nilV).setCell ⟨g, 2, none⟩ nilV).setCell ⟨g, 3, none⟩ nilV) B TK n ⟨g, nilV, nilV, nilV⟩ [] [] [] ∧ Fr (fun y => B ≤ y) w (((w.setCell ⟨g, 1, none⟩ nilV).setCell ⟨g, 2, none⟩ nilV).setCell ⟨g, 3, none⟩ nilV)) :=
    Lib.hid ⟨⟨by simpa using hM2, World.ownsRow_nil _ _ _ _, World.ownsRow_nil _ _ _ _, World.ownsRow_nil _ _ _ _, hg, .inr rfl, fun y h => by simp [Value.ownBlock] at h⟩, hF2⟩
  have hBw : B ≤ w.heap.size := Nat.le_of_lt (Nat.lt_of_le_of_lt hg hM.lt)
  clear hM hM2 hF2
  go_enter Try.func25, Try.ntmps25
  go_wp2_with fail
  go_loop [2] (fun sv => ∃ s : Nat, sv = .int .i64 s ∧ Pow s ∧ s ≤ siz n ∧ s ≤ 64) (fun sv => 64 - (intOf sv).toNat)
  case atStart => exact ⟨1, rfl, .inl rfl, by have := (siz_gt n hn).1; omega, by omega⟩
  case round =>
    obtain ⟨s, rfl, hp, hs, h64⟩ := hrel
    have hsI : (s : Int) ≤ 64 := by omega
    have HP := Lib.hid hp
    have HS := Lib.hid hs
    clear hp hs
    by_cases hlt : s < 2 * n
    · have hl : (s : Int) < 2 * n := by omega
      obtain ⟨u1, u2⟩ := siz_up hn HP.out HS.out hlt
      have U1 := Lib.hid u1
      have U2 := Lib.hid u2
      have h1 : 1 ≤ s := by rcases HP.out with h | h | h | h | h | h | h <;> omega
      have hz := (siz_gt n hn).2
      clear u1 u2
      go_wp2_with fail
      go_round
      case rel => exact ⟨2 * s, by go_num, U1.out, U2.out, by have := U2.out; omega⟩
      case measure => have := U2.out; simp [intOf]; omega
    · have hl : ¬ (s : Int) < 2 * n := by omega
      have he := Lib.hid (siz_end hn HP.out HS.out hlt)
      clear hlt HP HS
      go_upto_region 4 with fail
      obtain ⟨W2, hW⟩ : ∃ W2, ((w.setCell ⟨g, 1, none⟩ nilV).setCell ⟨g, 2, none⟩ nilV).setCell ⟨g, 3, none⟩ nilV = W2 := ⟨_, rfl⟩
      rw [hW] at HR
      rw [hW]
      clear hW b0 b1 b2 b3 z1 z2 z3
      go_wp2_with fail
      go_loopw [3] (fun kv wr => ∃ (k : Nat) (vi : Value), k ≤ s ∧ kv = .int .i64 k ∧ LogR wr B TK n ⟨g, nilV, nilV, vi⟩ [] [] (List.replicate k (-1)) ∧ Fr (fun y => B ≤ y) w wr) (fun kv _ => s - (intOf kv).toNat)
      case atStart => exact ⟨0, nilV, by omega, rfl, HR.out.1, HR.out.2⟩
      case round =>
        clear HR
        obtain ⟨k, vi, hk, rfl, hr, hf⟩ := hrel
        have HR := Lib.hid hr
        have HF := Lib.hid hf
        clear hr hf
        by_cases hlt : k < s
        · have hlk : (k : Int) < s := by omega
          obtain ⟨p, c, hvi⟩ := rdi_slice (rdi_own HR.out.ri)
          dsimp only at hvi
          rw [List.length_replicate] at hvi
          subst hvi
          have b3 : wr.cell? ⟨g, 3, none⟩ = some (.slice p k c) := HR.out.box.cell 3
          obtain ⟨A, c2, w2, r1, m1, y1, hL, hFL, hob⟩ := LogR.push_x HR.out (Nat.le_trans hBw HF.out.size) (by rw [List.length_replicate]; omega) (-1)
          rw [List.length_replicate] at r1 hL hFL hob
          dsimp only at r1 m1 y1 hL hFL hob
          have HL : Hid (LogR (w2.setCell ⟨g, 3, none⟩ (.slice A (k + 1) c2)) B TK n ⟨g, nilV, nilV, .slice A (k + 1) c2⟩ [] [] (List.replicate (k + 1) (-1))) := Lib.hid (by rw [List.replicate_succ']; exact hL)
          have HFL : Hid (Fr (fun y => B ≤ y) w (w2.setCell ⟨g, 3, none⟩ (.slice A (k + 1) c2))) := Lib.hid (HF.out.then hFL fun y hy hb => by
            rcases hb with hb | hb | hb | hb
            · rw [hb]
              exact hg
            · simp [Value.ownBlock] at hb
            · simp [Value.ownBlock] at hb
            · exact (HR.out.ri.lt y hb).1)
          clear hL hFL hob HR HF
          go_wp2_with (at_builtin; refine wpList_append_run rfl _ _ _ rfl r1 (by rfl) (by rfl) ?_)
          go_roundw
          case rel => exact ⟨k + 1, _, by omega, by go_num, HL.out, HFL.out⟩
          case measure => simp [intOf]; omega
        · obtain rfl : k = s := by omega
          clear hlt hk
          go_wp2_with fail
          go_end0
          exact ⟨rfl, vi, by rw [← he.out]; exact HR.out, HF.out⟩
theorem r_new (w : World) (c : Int) (n : Nat) (hn : (max 0 (min c 32) : Int) = n) : Calls Try.prog 10 #[.int .i64 c] w fun e w' => Born TK n w e w' := by
  have h32 : n ≤ 32 := by omega
  have hsz := siz_gt n h32
  have hcs : (c < 0 ∧ n = 0) ∨ (0 ≤ c ∧ 32 < c ∧ n = 32) ∨ (0 ≤ c ∧ c ≤ 32 ∧ c = n) := by omega
  have hcl : ∀ w, Calls Try.prog 24 #[.int .i64 c, .int .i64 32] w fun e w' => e = .returned (.int .i64 n) ∧ w' = w := fun w => by
    rcases hcs with ⟨h1, rfl⟩ | ⟨h1, h2, rfl⟩ | ⟨h1, h2, rfl⟩
    all_goals go_enter Try.func24, Try.ntmps24
    all_goals go_wp2_with fail
    all_goals go_ret
    all_goals first | exact ⟨rfl, rfl⟩ | (obtain rfl : n = 0 := by omega
                                          exact ⟨rfl, rfl⟩)
  have hM := Mem.new w TK #[.int .i64 n, nilV, nilV, nilV]
  have hrc := r_clear _ w.heap.size n w.heap.size hM (Nat.le_refl _) h32
  have fin : ∀ (e : Ending) (w' : World), (e = .returned (.tuple #[]) ∧ ∃ vi, LogR w' w.heap.size TK n ⟨w.heap.size, nilV, nilV, vi⟩ [] [] (List.replicate (siz n) (-1)) ∧ Fr (fun y => w.heap.size ≤ y) (w.alloc (.cells #[.int .i64 n, nilV, nilV, nilV] TK)) w') → e = .returned (.tuple #[]) ∧ Born TK n w (.returned (.pointer (some ⟨w.heap.size, 0, none⟩))) w' := by
    rintro e w' ⟨he, vi, h1, h2⟩
    exact ⟨he, ⟨w.heap.size, nilV, nilV, vi⟩, rfl, ⟨h1, Ok.fresh hsz.1 hsz.2, h32⟩, h2.after (below_new w _) (fun _ h => h) (Nat.le_refl _)⟩
  have FIN := Lib.hid fin
  clear fin hM hcs hn
  go_enter Try.func10, Try.ntmps10
  go_wp2_with (first
    | (go_at_call 24; refine (hcl _).mono ?_; rintro e w2 ⟨rfl, rfl⟩)
    | (go_at_call 25; refine hrc.mono ?_; rintro e w3 hcc; obtain ⟨rfl, hbb⟩ := FIN.out _ _ hcc))
  go_ret
  exact hbb
theorem below_trans2 {a b c : World} (h : Below a.heap.size a b) (k : Below b.heap.size b c) : Below a.heap.size a c := h.trans (k.mono h.size)
theorem rdi_lit (w : World) (xs : List Int) : RdI (w.alloc (.cells (IA xs) TI)) (.slice (some ⟨w.heap.size, 0, none⟩) xs.length xs.length) xs :=
  ⟨_, _, rfl, fun j x hj => ⟨_, _, rfl, by
    rw [(Mem.new w TI (IA xs)).cell]
    unfold IA
    rw [Nat.zero_add, List.getElem?_toArray, List.getElem?_map, hj]
    rfl⟩⟩
theorem rdi_mem {w : World} {y : Nat} {xs : List Int} (h : Mem w y TI (IA xs)) : RdI w (.slice (some ⟨y, 0, none⟩) xs.length xs.length) xs :=
  ⟨_, _, rfl, fun j x hj => ⟨_, _, rfl, by
    rw [h.cell]
    unfold IA
    rw [Nat.zero_add, List.getElem?_toArray, List.getElem?_map, hj]
    rfl⟩⟩
theorem rdw_mem {w : World} {y : Nat} {xs : List Int} (h : Mem w y TU (WA xs)) : RdW w (.slice (some ⟨y, 0, none⟩) xs.length xs.length) xs :=
  ⟨_, _, rfl, fun j x hj => ⟨_, _, rfl, by
    rw [h.cell]
    unfold WA
    rw [Nat.zero_add, List.getElem?_toArray, List.getElem?_map, hj]
    rfl⟩⟩
theorem a_put_to {w : World} {B : Nat} {cap : Nat} {L : LV} {ad vs ix : List Int} (h : LogIs w B TL cap L ad vs ix) (hB : B ≤ w.heap.size) (x v : Int) (r : Bool) (ad' vs' ix' : List Int) (hr : putR cap ad x = r) (h1 : putA cap ad x = ad') (h2 : putV cap ad vs x v = vs') (h3 : putX cap ad ix x = ix') : Calls Try.prog 12 #[.pointer (some ⟨L.g, 0, none⟩), .int .i64 x, .int .u64 v] w fun e w' => PutTo B TL cap L r ad' vs' ix' w e w' := by
  subst hr h1 h2 h3
  exact a_put w B cap L ad vs ix x v h hB
theorem r_put_to {w : World} {B : Nat} {cap : Nat} {L : LV} {ad vs ix : List Int} (h : LogIs w B TK cap L ad vs ix) (hB : B ≤ w.heap.size) (x v : Int) (r : Bool) (ad' vs' ix' : List Int) (hr : putR cap ad x = r) (h1 : putA cap ad x = ad') (h2 : putV cap ad vs x v = vs') (h3 : putX cap ad ix x = ix') : Calls Try.prog 13 #[.pointer (some ⟨L.g, 0, none⟩), .int .i64 x, .int .u64 v] w fun e w' => PutTo B TK cap L r ad' vs' ix' w e w' := by
  subst hr h1 h2 h3
  exact r_put w B cap L ad vs ix x v h hB
theorem l_awake (w : World) : Calls Try.prog 8 #[] w fun e w' => e = .returned (.bool true) ∧ Below w.heap.size w w' := by
  go_enter Try.func8, Try.ntmps8
  go_upto_region 4 with (go_at_call 9; refine (a_new _ 2 2 (by decide)).mono ?_; rintro e w1 ⟨⟨g, va, vv, vi⟩, rfl, hS0, hB0⟩)
  have hz := hB0.size
  have HB0 := Lib.hid hB0
  clear hB0
  have c0 := a_put_to hS0 hz 1 7 true [1] [7] [-1, 0, -1, -1] (by decide) (by decide) (by decide) (by decide)
  go_upto_region 5 with (first
    | (go_at_call 12; (with_reducible refine c0.mono ?_); rintro e w2 ⟨rfl, L1, hS1, hg1, hF1, _⟩; have hB1 := HB0.out.trans (hS0.step hz hF1); have hz1 := hB1.size; have c1 := a_put_to hS1 hz1 5 8 true [1, 5] [7, 8] [-1, 0, 1, -1] (by decide) (by decide) (by decide) (by decide); rw [hg1] at c1)
    | (go_at_call 12; (with_reducible refine c1.mono ?_); rintro e w3 ⟨rfl, L2, hS2, hg2, hF2, _⟩; have hB2 := hB1.trans (hS1.step hz1 hF2); have hz2 := hB2.size; have c2 := a_put_to hS2 hz2 9 9 false [1, 5] [7, 8] [-1, 0, 1, -1] (by decide) (by decide) (by decide) (by decide); rw [hg2, hg1] at c2)
    | (go_at_call 12; (with_reducible refine c2.mono ?_); rintro e w4 ⟨rfl, L3, hS3, hg3, hF3, _⟩; have hB3 := hB2.trans (hS2.step hz2 hF3); have hz3 := hB3.size))
  rw [hg2, hg1] at hg3
  have HB := Lib.hid hB3
  have HS := Lib.hid hS3
  have hge := a_get _ _ _ _ _ _ _ 5 hS3
  rw [hg3, show getV [1, 5] [7, 8] 5 = 8 by decide, show getB [1, 5] 5 = true by decide] at hge
  have HG := Lib.hid hg3
  clear hS0 hS1 hS2 hS3 hF1 hF2 hF3 hB1 hB2 hB3 hz1 hz2 hz3 HB0 c0 c1 c2 hg1 hg2 hg3
  go_upto_region 6 with (go_at_call 20; refine hge.mono ?_; rintro e x0 ⟨rfl, hws0⟩)
  have HS4 := Lib.hid (show LogIs x0 w.heap.size TL 2 L3 [1, 5] [7, 8] [-1, 0, 1, -1] by
    obtain ⟨nd, rfl⟩ := hws0
    exact HS.out.drewN nd)
  have HB4 := Lib.hid (show Below w.heap.size w x0 by
    obtain ⟨nd, rfl⟩ := hws0
    exact below_drewN HB.out nd)
  have hl := a_len _ _ _ _ _ _ _ HS4.out.toLogR
  have hli := a_index _ _ _ _ _ _ _ HS4.out
  rw [HG.out] at hl hli
  clear HS HB hws0 hge
  go_wp2_with (first
    | (go_at_call 14; refine hl.mono ?_; rintro e x2 ⟨rfl, rfl⟩)
    | (go_at_call 19; refine hli.mono ?_; rintro e x3 ⟨y, rfl, hy, hO, hBl⟩)
    | (go_at_call 15; refine (k_ints _ _ _ [-1, 0, 1, -1] (rdi_below (rdi_mem hO) (below_new _ _)) (rdi_lit _ [-1, 0, 1, -1]) (by decide)).mono ?_; rintro e x4 ⟨rfl, hws⟩))
  go_ret
  obtain ⟨nd, rfl⟩ := hws
  exact ⟨rfl, below_drewN (below_trans2 HB4.out (below_trans2 hBl (below_new _ _))) nd⟩
end Go.Proofs.Ytelpimhgodkmlaa.RlE
