/-
  Contracts of the reader of package code: lists.
-/
import Derived.Test.YtafidppjabdecaaCodeG
namespace Go.Proofs.Ytafidppjabdecaa.CodeH
open Go.ChangeShapes Go.WideShapes Go.ChangeAt Go.RowKit
open PlainT BlkW LawFrame CodeS CodeW CodeA CodeE CodeF CodeG
set_option linter.unusedVariables false
set_option maxHeartbeats 1000000

theorem info_u64 : (Try.prog.info? 46).map (fun i => (i.zero, i.size, i.bytes)) = some (some (.int .u64 0), 1, 8) := by kernel_rfl
theorem info_int : (Try.prog.info? 3).map (fun i => (i.zero, i.size, i.bytes)) = some (some (.int .i64 0), 1, 8) := by kernel_rfl
theorem info_ins : (Try.prog.info? 75).map (fun i => (i.zero, i.size, i.bytes)) = some (some (.agg #[.int .i64 0, .int .i64 0, .int .i64 0, .int .i64 0, .int .i64 0]), 5, 40) := by kernel_rfl
theorem rL_none {α : Type} {f : List Int → Option (α × List Int)} {l : List Int} (h : rU l = none) : rL f l = none := by unfold rL; rw [h]; rfl
theorem rL_some {α : Type} {f : List Int → Option (α × List Int)} {l l' : List Int} {n : Int} (h : rU l = some (n, l')) : rL f l = rN f n.toNat l' := by unfold rL; rw [h]; rfl
theorem own_not {w : World} {base size n g : Nat} {e : TypeId} {v : Value} {xs : List Value} (h : w.ownsRow base e size v n xs) (hg : g < base) : v.ownBlock ≠ some g := by
  intro e
  have := (h.lt g e).1
  omega

/-! ### U -/
def cU (xs : List Int) : List Value := xs.map (Value.int .u64)
def InvU (B g : Nat) (w : World) (n : Nat) (l1 : List Int) (v i : Value) (wr : World) : Prop := ∃ (xs : List Int) (l' : List Int), wr.ownsRow w.heap.size 46 1 v xs.length (cU xs) ∧ i = .int .u64 xs.length ∧ Part rU n l1 xs l' ∧ Rd B wr g l' ∧ Fr TR B w wr ∧ xs.length + l'.length ≤ l1.length
def IsU (B g : Nat) (w : World) (l : List Int) (e : Ending) (w' : World) : Prop :=
  Fr TR B w w' ∧ ((rL rU l = none ∧ Fails e) ∨ ∃ xs l' A c, rL rU l = some (xs, l') ∧ e = .returned (.slice A xs.length c) ∧ Rd B w' g l' ∧ w'.ownsRow w.heap.size 46 1 (.slice A xs.length c) xs.length (cU xs))
set_option maxHeartbeats 4000000 in
set_option maxRecDepth 100000 in
theorem a_listU (B g : Nat) (l : List Int) (w : World) (h : Rd B w g l) : Calls Try.prog 38 #[.pointer (some ⟨g, 0, none⟩), .func (.func 39) #[.pointer (some ⟨g, 0, none⟩)] #[]] w fun e w' => IsU B g w l e w' := by
  obtain ⟨i0, hi, hz0, hz1, hz2⟩ := info_parts info_u64
  have hB := h.2.1
  cases hu : rU l with
  | none =>
    have HN := Lib.hid (rL_none (f := rU) hu)
    go_enter Try.func38, Try.ntmps38
    go_wp2_with fail
    refine (u_no h hu).mono ?_
    rintro e w1 ⟨rfl, hf⟩
    exact ⟨rfl, hf, .inl ⟨HN.out, rfl⟩⟩
  | some y =>
    obtain ⟨n, l1⟩ := y
    have hn := (exact_u.of l n l1 (Rd.inB h) hu).2
    have HL := Lib.hid (rL_some (f := rU) hu)
    have hlt := rU_lt hu
    have hll := h.2.2.1
    have hgl : g < w.heap.size := by obtain ⟨_, _, _, _, _, _, hm, _⟩ := h; exact hm.lt
    go_enter Try.func38, Try.ntmps38
    go_wp2_with fail
    refine (u_yes h hu).mono ?_
    rintro e w1 ⟨rfl, hr1, hf1⟩
    obtain ⟨m, rfl⟩ := Int.eq_ofNat_of_zero_le hn.1
    have hm := hn.2
    rw [Int.toNat_natCast] at HL
    clear hn h hu
    go_wp2
    go_loopw [5, 8] (fun v i wr => InvU B g w m l1 v i wr) (fun _ i _ => m - (intOf i).toNat)
    case atStart => exact ⟨[], l1, World.ownsRow_nil _ _ _ _, rfl, Part.start _ _, hr1, hf1, by simp⟩
    case round =>
      obtain ⟨xs, l', hown, rfl, hpart, hrd, hfr, hxl⟩ := hrel
      have hrl := hrd.2.2.1
      have HP := Lib.hid hpart
      clear hpart
      by_cases hlt2 : xs.length < m
      · cases hu : rU l' with
        | none =>
          have HN := Lib.hid (show rL rU l = none by rw [HL.out]; exact HP.out.no hlt2 hu)
          clear hown
          go_wp2_with fail
          refine (u_no hrd hu).mono ?_
          rintro e w2 ⟨rfl, hf⟩
          exact ⟨rfl, hfr.trans hf, .inl ⟨HN.out, rfl⟩⟩
        | some y =>
          obtain ⟨x, l''⟩ := y
          have HP2 := Lib.hid (HP.out.step hlt2 hu)
          have hlx := rU_lt hu
          have HOW := Lib.hid hown
          obtain ⟨A, c, rfl, hl1, hl2⟩ := own_slice hown
          have hsz := hfr.size
          clear hown
          go_wp2_with fail
          refine (u_yes hrd hu).mono ?_
          rintro e w2 ⟨rfl, hr2, hf2⟩
          have hown2 := own_fr HOW.out hf2 (by unfold TR; decide)
          have hsz2 := hf2.size
          clear hrd hu
          go_wp2_with (at_builtin; refine wpList_append_own _ rfl _ _ 25 rfl w.heap.size 46 i0 _ 1 8 Try.underlying25 hi hz0 hz1 hz2 rfl (by decide) _ xs.length (cU xs) rfl (hown2.alloc _) ⟨w2.heap.size, 0, none⟩ 1 1 [.int .u64 x] rfl rfl ?c1 ?c2 ?c3 ?c4 ?c5 ?_)
          case c1 => exact cell_lit (W := w2) (l := [.int .u64 x])
          case c2 => simp [Value.oneCell']
          case c3 => unfold maxLen; omega
          case c4 => omega
          case c5 => simp; omega
          intro v' w3 hown3 hgrow _
          have hr3 := (hr2.alloc (.cells #[.int .u64 x] 46)).grown hgrow (fun k hk => ⟨by have := (hown2.lt k hk).1; omega, fun e => own_not hown2 hgl (e ▸ hk)⟩)
          have hf3 := (((hfr.trans hf2).alloc (by omega) (.cells #[.int .u64 x] 46))).grownNew hB hgrow (fun k hk => (hown2.lt k hk).1)
          have HO3 := Lib.hid (show w3.ownsRow w.heap.size 46 1 v' (xs ++ [x]).length (cU (xs ++ [x])) by
            have e1 : cU (xs ++ [x]) = cU xs ++ [.int .u64 x] := by unfold cU; simp
            rw [e1, show (xs ++ [x]).length = xs.length + 1 by simp]
            exact hown3)
          have HR3 := Lib.hid hr3
          clear hown3 hown2 hgrow hr2 hr3 HOW
          go_wp2
          go_roundw
          case rel => exact ⟨xs ++ [x], l'', HO3.out, by simp only [List.length_append, List.length_cons, List.length_nil]; go_num, HP2.out, HR3.out, hf3, by simp only [List.length_append, List.length_cons, List.length_nil]; omega⟩
          case measure => simp [intOf]; omega
      · have hle := HP.out.1
        obtain rfl : xs.length = m := by omega
        have HY := Lib.hid (show rL rU l = some (xs, l') by rw [HL.out]; exact HP.out.all rfl)
        have HOW := Lib.hid hown
        obtain ⟨A, c, rfl, hl1, hl2⟩ := own_slice hown
        clear hown
        go_wp2
        go_ret
        exact ⟨hfr, .inr ⟨xs, l', A, c, HY.out, rfl, hrd, HOW.out⟩⟩

/-! ### S -/
def cS (xs : List Int) : List Value := xs.map (Value.int .i64)
def InvS (B g : Nat) (w : World) (n : Nat) (l1 : List Int) (v i : Value) (wr : World) : Prop := ∃ (xs : List Int) (l' : List Int), wr.ownsRow w.heap.size 3 1 v xs.length (cS xs) ∧ i = .int .u64 xs.length ∧ Part rS n l1 xs l' ∧ Rd B wr g l' ∧ Fr TR B w wr ∧ xs.length + l'.length ≤ l1.length
def IsS (B g : Nat) (w : World) (l : List Int) (e : Ending) (w' : World) : Prop :=
  Fr TR B w w' ∧ ((rL rS l = none ∧ Fails e) ∨ ∃ xs l' A c, rL rS l = some (xs, l') ∧ e = .returned (.slice A xs.length c) ∧ Rd B w' g l' ∧ w'.ownsRow w.heap.size 3 1 (.slice A xs.length c) xs.length (cS xs))
set_option maxHeartbeats 4000000 in
set_option maxRecDepth 100000 in
theorem a_listS (B g : Nat) (l : List Int) (w : World) (h : Rd B w g l) : Calls Try.prog 42 #[.pointer (some ⟨g, 0, none⟩), .func (.func 43) #[.pointer (some ⟨g, 0, none⟩)] #[]] w fun e w' => IsS B g w l e w' := by
  obtain ⟨i0, hi, hz0, hz1, hz2⟩ := info_parts info_int
  have hB := h.2.1
  cases hu : rU l with
  | none =>
    have HN := Lib.hid (rL_none (f := rS) hu)
    go_enter Try.func42, Try.ntmps42
    go_wp2_with fail
    refine (u_no h hu).mono ?_
    rintro e w1 ⟨rfl, hf⟩
    exact ⟨rfl, hf, .inl ⟨HN.out, rfl⟩⟩
  | some y =>
    obtain ⟨n, l1⟩ := y
    have hn := (exact_u.of l n l1 (Rd.inB h) hu).2
    have HL := Lib.hid (rL_some (f := rS) hu)
    have hlt := rU_lt hu
    have hll := h.2.2.1
    have hgl : g < w.heap.size := by obtain ⟨_, _, _, _, _, _, hm, _⟩ := h; exact hm.lt
    go_enter Try.func42, Try.ntmps42
    go_wp2_with fail
    refine (u_yes h hu).mono ?_
    rintro e w1 ⟨rfl, hr1, hf1⟩
    obtain ⟨m, rfl⟩ := Int.eq_ofNat_of_zero_le hn.1
    have hm := hn.2
    rw [Int.toNat_natCast] at HL
    clear hn h hu
    go_wp2
    go_loopw [5, 8] (fun v i wr => InvS B g w m l1 v i wr) (fun _ i _ => m - (intOf i).toNat)
    case atStart => exact ⟨[], l1, World.ownsRow_nil _ _ _ _, rfl, Part.start _ _, hr1, hf1, by simp⟩
    case round =>
      obtain ⟨xs, l', hown, rfl, hpart, hrd, hfr, hxl⟩ := hrel
      have hrl := hrd.2.2.1
      have HP := Lib.hid hpart
      clear hpart
      by_cases hlt2 : xs.length < m
      · cases hu : rS l' with
        | none =>
          have HN := Lib.hid (show rL rS l = none by rw [HL.out]; exact HP.out.no hlt2 hu)
          clear hown
          go_wp2_with fail
          refine (s_no hrd hu).mono ?_
          rintro e w2 ⟨rfl, hf⟩
          exact ⟨rfl, hfr.trans hf, .inl ⟨HN.out, rfl⟩⟩
        | some y =>
          obtain ⟨x, l''⟩ := y
          have HP2 := Lib.hid (HP.out.step hlt2 hu)
          have hlx := rS_lt hu
          have HOW := Lib.hid hown
          obtain ⟨A, c, rfl, hl1, hl2⟩ := own_slice hown
          have hsz := hfr.size
          clear hown
          go_wp2_with fail
          refine (s_yes hrd hu).mono ?_
          rintro e w2 ⟨rfl, hr2, hf2⟩
          have hown2 := own_fr HOW.out hf2 (by unfold TR; decide)
          have hsz2 := hf2.size
          clear hrd hu
          go_wp2_with (at_builtin; refine wpList_append_own _ rfl _ _ 27 rfl w.heap.size 3 i0 _ 1 8 Try.underlying27 hi hz0 hz1 hz2 rfl (by decide) _ xs.length (cS xs) rfl (hown2.alloc _) ⟨w2.heap.size, 0, none⟩ 1 1 [.int .i64 x] rfl rfl ?c1 ?c2 ?c3 ?c4 ?c5 ?_)
          case c1 => exact cell_lit (W := w2) (l := [.int .i64 x])
          case c2 => simp [Value.oneCell']
          case c3 => unfold maxLen; omega
          case c4 => omega
          case c5 => simp; omega
          intro v' w3 hown3 hgrow _
          have hr3 := (hr2.alloc (.cells #[.int .i64 x] 3)).grown hgrow (fun k hk => ⟨by have := (hown2.lt k hk).1; omega, fun e => own_not hown2 hgl (e ▸ hk)⟩)
          have hf3 := (((hfr.trans hf2).alloc (by omega) (.cells #[.int .i64 x] 3))).grownNew hB hgrow (fun k hk => (hown2.lt k hk).1)
          have HO3 := Lib.hid (show w3.ownsRow w.heap.size 3 1 v' (xs ++ [x]).length (cS (xs ++ [x])) by
            have e1 : cS (xs ++ [x]) = cS xs ++ [.int .i64 x] := by unfold cS; simp
            rw [e1, show (xs ++ [x]).length = xs.length + 1 by simp]
            exact hown3)
          have HR3 := Lib.hid hr3
          clear hown3 hown2 hgrow hr2 hr3 HOW
          go_wp2
          go_roundw
          case rel => exact ⟨xs ++ [x], l'', HO3.out, by simp only [List.length_append, List.length_cons, List.length_nil]; go_num, HP2.out, HR3.out, hf3, by simp only [List.length_append, List.length_cons, List.length_nil]; omega⟩
          case measure => simp [intOf]; omega
      · have hle := HP.out.1
        obtain rfl : xs.length = m := by omega
        have HY := Lib.hid (show rL rS l = some (xs, l') by rw [HL.out]; exact HP.out.all rfl)
        have HOW := Lib.hid hown
        obtain ⟨A, c, rfl, hl1, hl2⟩ := own_slice hown
        clear hown
        go_wp2
        go_ret
        exact ⟨hfr, .inr ⟨xs, l', A, c, HY.out, rfl, hrd, HOW.out⟩⟩
end Go.Proofs.Ytafidppjabdecaa.CodeH
