/-
  Contracts of the reader of package code: lists of instructions, and of programs.
-/
import Derived.Test.YtafidppjabdecaaCodeH
namespace Go.Proofs.Ytafidppjabdecaa.CodeI
open Go.ChangeShapes Go.WideShapes Go.ChangeAt Go.RowKit
open PlainT BlkW LawFrame CodeS CodeW CodeA CodeE CodeF CodeG CodeH
set_option linter.unusedVariables false
set_option maxHeartbeats 1000000

theorem i_no {B g : Nat} {l : List Int} {w : World} (h : Rd B w g l) (hn : rI l = none) : Calls Try.prog 46 #[.pointer (some ⟨g, 0, none⟩)] w fun e w' => Fails e ∧ Fr TR B w w' :=
  (a_instr B g l w h).mono fun e w' ⟨hf, h2⟩ => by
    rcases h2 with ⟨_, h3⟩ | ⟨_, _, _, _, _, l', h3, _⟩
    · exact ⟨h3, hf⟩
    · rw [hn] at h3; cases h3
theorem i_yes {B g : Nat} {l l' : List Int} {x0 x1 x2 x3 x4 : Int} {w : World} (h : Rd B w g l) (hs : rI l = some ([x0, x1, x2, x3, x4], l')) : Calls Try.prog 46 #[.pointer (some ⟨g, 0, none⟩)] w fun e w' => e = .returned (.agg #[.int .i64 x0, .int .i64 x1, .int .i64 x2, .int .i64 x3, .int .i64 x4]) ∧ Rd B w' g l' ∧ Fr TR B w w' :=
  (a_instr B g l w h).mono fun e w' ⟨hf, h2⟩ => by
    rcases h2 with ⟨h3, _⟩ | ⟨y0, y1, y2, y3, y4, l'', h3, h4, h5⟩
    · rw [hs] at h3; cases h3
    · rw [hs] at h3
      simp only [Option.some.injEq, Prod.mk.injEq, List.cons.injEq, and_true] at h3
      obtain ⟨⟨rfl, rfl, rfl, rfl, rfl⟩, rfl⟩ := h3
      exact ⟨h4, h5, hf⟩
theorem i_five {l l' : List Int} {x : List Int} (h : rI l = some (x, l')) : ∃ x0 x1 x2 x3 x4, x = [x0, x1, x2, x3, x4] := by
  have h5 := (rN_le (fun _ _ _ => rS_lt) 5 l l' x h).2
  match x, h5 with
  | [x0, x1, x2, x3, x4], _ => exact ⟨x0, x1, x2, x3, x4, rfl⟩
def iC (i : List Int) : List Value := i.map (Value.int .i64)

/-! ### I -/
def cI (xs : List (List Int)) : List Value := xs.flatMap iC
theorem cI_len (xs : List (List Int)) (h : ∀ x ∈ xs, x.length = 5) : (cI xs).length = xs.length * 5 := by
  induction xs with
  | nil => rfl
  | cons a r ih =>
    have h1 := ih (fun x hx => h x (by simp [hx]))
    have h2 := h a (by simp)
    unfold cI at h1 ⊢
    simp only [List.flatMap_cons, List.length_append, List.length_cons, h1]
    unfold iC
    rw [List.length_map]
    omega
def InvI (B g : Nat) (w : World) (n : Nat) (l1 : List Int) (v i : Value) (wr : World) : Prop := ∃ (xs : List (List Int)) (l' : List Int), wr.ownsRow w.heap.size 75 5 v xs.length (cI xs) ∧ i = .int .u64 xs.length ∧ Part rI n l1 xs l' ∧ Rd B wr g l' ∧ Fr TR B w wr ∧ xs.length + l'.length ≤ l1.length
def IsI (B g : Nat) (w : World) (l : List Int) (e : Ending) (w' : World) : Prop :=
  Fr TR B w w' ∧ ((rL rI l = none ∧ Fails e) ∨ ∃ xs l' A c, rL rI l = some (xs, l') ∧ e = .returned (.slice A xs.length c) ∧ Rd B w' g l' ∧ w'.ownsRow w.heap.size 75 5 (.slice A xs.length c) xs.length (cI xs))
set_option maxHeartbeats 4000000 in
set_option maxRecDepth 100000 in
theorem a_listI (B g : Nat) (l : List Int) (w : World) (h : Rd B w g l) : Calls Try.prog 45 #[.pointer (some ⟨g, 0, none⟩), .func (.func 46) #[.pointer (some ⟨g, 0, none⟩)] #[]] w fun e w' => IsI B g w l e w' := by
  obtain ⟨i0, hi, hz0, hz1, hz2⟩ := info_parts info_ins
  have hB := h.2.1
  cases hu : rU l with
  | none =>
    have HN := Lib.hid (rL_none (f := rI) hu)
    go_enter Try.func45, Try.ntmps45
    go_wp2_with fail
    refine (u_no h hu).mono ?_
    rintro e w1 ⟨rfl, hf⟩
    exact ⟨rfl, hf, .inl ⟨HN.out, rfl⟩⟩
  | some y =>
    obtain ⟨n, l1⟩ := y
    have hn := (exact_u.of l n l1 (Rd.inB h) hu).2
    have HL := Lib.hid (rL_some (f := rI) hu)
    have hlt := rU_lt hu
    have hll := h.2.2.1
    have hgl : g < w.heap.size := by obtain ⟨_, _, _, _, _, _, hm, _⟩ := h; exact hm.lt
    go_enter Try.func45, Try.ntmps45
    go_wp2_with fail
    refine (u_yes h hu).mono ?_
    rintro e w1 ⟨rfl, hr1, hf1⟩
    obtain ⟨m, rfl⟩ := Int.eq_ofNat_of_zero_le hn.1
    have hm := hn.2
    rw [Int.toNat_natCast] at HL
    clear hn h hu
    go_wp2
    go_loopw [5, 8] (fun v i wr => InvI B g w m l1 v i wr) (fun _ i _ => m - (intOf i).toNat)
    case atStart => exact ⟨[], l1, World.ownsRow_nil _ _ _ _, rfl, Part.start _ _, hr1, hf1, by simp⟩
    case round =>
      obtain ⟨xs, l', hown, rfl, hpart, hrd, hfr, hxl⟩ := hrel
      have hrl := hrd.2.2.1
      have HP := Lib.hid hpart
      clear hpart
      by_cases hlt2 : xs.length < m
      · cases hu : rI l' with
        | none =>
          have HN := Lib.hid (show rL rI l = none by rw [HL.out]; exact HP.out.no hlt2 hu)
          clear hown
          go_wp2_with fail
          refine (i_no hrd hu).mono ?_
          rintro e w2 ⟨rfl, hf⟩
          exact ⟨rfl, hfr.trans hf, .inl ⟨HN.out, rfl⟩⟩
        | some y =>
          obtain ⟨x, l''⟩ := y
          obtain ⟨x0, x1, x2, x3, x4, rfl⟩ := i_five hu
          have HP2 := Lib.hid (HP.out.step hlt2 hu)
          have hlx := rI_lt hu
          have HOW := Lib.hid hown
          obtain ⟨A, c, rfl, hl1, hl2⟩ := own_slice hown
          have hsz := hfr.size
          clear hown
          go_wp2_with fail
          refine (i_yes hrd hu).mono ?_
          rintro e w2 ⟨rfl, hr2, hf2⟩
          have hown2 := own_fr HOW.out hf2 (by unfold TR; decide)
          have hsz2 := hf2.size
          clear hrd hu
          go_wp2_with (at_builtin; refine wpList_append_own _ rfl _ _ 53 rfl w.heap.size 75 i0 _ 5 40 Try.underlying53 hi hz0 hz1 hz2 rfl (by decide) _ xs.length (cI xs) rfl (hown2.alloc _) ⟨w2.heap.size, 0, none⟩ 1 1 [.int .i64 x0, .int .i64 x1, .int .i64 x2, .int .i64 x3, .int .i64 x4] rfl rfl ?c1 ?c2 ?c3 ?c4 ?c5 ?_)
          case c1 => exact cell_lit (W := w2) (l := [.int .i64 x0, .int .i64 x1, .int .i64 x2, .int .i64 x3, .int .i64 x4])
          case c2 => simp [Value.oneCell']
          case c3 => unfold maxLen; omega
          case c4 => omega
          case c5 => simp; omega
          intro v' w3 hown3 hgrow _
          have hr3 := (hr2.alloc (.cells #[.int .i64 x0, .int .i64 x1, .int .i64 x2, .int .i64 x3, .int .i64 x4] 75)).grown hgrow (fun k hk => ⟨by have := (hown2.lt k hk).1; omega, fun e => own_not hown2 hgl (e ▸ hk)⟩)
          have hf3 := (((hfr.trans hf2).alloc (by omega) (.cells #[.int .i64 x0, .int .i64 x1, .int .i64 x2, .int .i64 x3, .int .i64 x4] 75))).grownNew hB hgrow (fun k hk => (hown2.lt k hk).1)
          have HO3 := Lib.hid (show w3.ownsRow w.heap.size 75 5 v' (xs ++ [[x0, x1, x2, x3, x4]]).length (cI (xs ++ [[x0, x1, x2, x3, x4]])) by
            have e1 : cI (xs ++ [[x0, x1, x2, x3, x4]]) = cI xs ++ [.int .i64 x0, .int .i64 x1, .int .i64 x2, .int .i64 x3, .int .i64 x4] := by unfold cI; rw [List.flatMap_append]; simp [iC]
            rw [e1, show (xs ++ [[x0, x1, x2, x3, x4]]).length = xs.length + 1 by simp]
            exact hown3)
          have HR3 := Lib.hid hr3
          clear hown3 hown2 hgrow hr2 hr3 HOW
          go_wp2
          go_roundw
          case rel => exact ⟨xs ++ [[x0, x1, x2, x3, x4]], l'', HO3.out, by simp only [List.length_append, List.length_cons, List.length_nil]; go_num, HP2.out, HR3.out, hf3, by simp only [List.length_append, List.length_cons, List.length_nil]; omega⟩
          case measure => simp [intOf]; omega
      · have hle := HP.out.1
        obtain rfl : xs.length = m := by omega
        have HY := Lib.hid (show rL rI l = some (xs, l') by rw [HL.out]; exact HP.out.all rfl)
        have HOW := Lib.hid hown
        obtain ⟨A, c, rfl, hl1, hl2⟩ := own_slice hown
        clear hown
        go_wp2
        go_ret
        exact ⟨hfr, .inr ⟨xs, l', A, c, HY.out, rfl, hrd, HOW.out⟩⟩

/-! ### A program. -/
theorem p_no {B g : Nat} {l : List Int} {w : World} (h : Rd B w g l) (hn : rP l = none) : Calls Try.prog 41 #[.pointer (some ⟨g, 0, none⟩)] w fun e w' => Fails e ∧ Fr TR B w w' := by
  go_enter Try.func41, Try.ntmps41
  go_wp2_with fail
  refine (a_listI B g l _ h).mono ?_
  rintro e w1 ⟨hf, h2⟩
  rcases h2 with ⟨_, rfl⟩ | ⟨_, _, _, _, h3, _⟩
  · exact ⟨rfl, rfl, hf⟩
  · rw [show rL rI l = rP l from rfl, hn] at h3; cases h3
theorem p_yes {B g : Nat} {l l' : List Int} {p : List (List Int)} {w : World} (h : Rd B w g l) (hs : rP l = some (p, l')) : Calls Try.prog 41 #[.pointer (some ⟨g, 0, none⟩)] w fun e w' => (∃ A c, e = .returned (.slice A p.length c) ∧ w'.ownsRow w.heap.size 75 5 (.slice A p.length c) p.length (cI p)) ∧ Rd B w' g l' ∧ Fr TR B w w' := by
  go_enter Try.func41, Try.ntmps41
  go_wp2_with fail
  refine (a_listI B g l _ h).mono ?_
  rintro e w1 ⟨hf, h2⟩
  rcases h2 with ⟨h3, _⟩ | ⟨xs, l'', A, c, h3, rfl, hr, ho⟩
  · rw [show rL rI l = rP l from rfl, hs] at h3; cases h3
  · rw [show rL rI l = rP l from rfl, hs] at h3
    simp only [Option.some.injEq, Prod.mk.injEq] at h3
    obtain ⟨rfl, rfl⟩ := h3
    go_wp2
    go_ret
    exact ⟨⟨A, c, rfl, ho⟩, hr, hf⟩
end Go.Proofs.Ytafidppjabdecaa.CodeI
