/-
  Contracts of the reader of package code: the list of the programs.
-/
import Derived.Test.YtafidppjabdecaaCodeI
namespace Go.Proofs.Ytafidppjabdecaa.CodeJ
open Go.ChangeShapes Go.WideShapes Go.ChangeAt Go.RowKit
open PlainT BlkW LawFrame CodeS CodeW CodeA CodeE CodeF CodeG CodeH CodeI
set_option linter.unusedVariables false
set_option maxHeartbeats 1000000

theorem info_prog : (Try.prog.info? 53).map (fun i => (i.zero, i.size, i.bytes)) = some (some (.slice none 0 0), 1, 24) := by kernel_rfl
/-- The values vs are slices of the call's own that hold the programs ps. -/
def PV (w : World) (B : Nat) (vs : List Value) (ps : List (List (List Int))) : Prop :=
  vs.length = ps.length ∧ ∀ (i : Nat) (p : List (List Int)), ps[i]? = some p → ∃ A c, vs[i]? = some (.slice A p.length c) ∧ w.ownsRow B 75 5 (.slice A p.length c) p.length (cI p)
theorem PV.fr {T : List Nat} {w w' : World} {B B' : Nat} {vs : List Value} {ps : List (List (List Int))} (h : PV w B vs ps) (f : Fr T B' w w') (ht : 75 ∉ T) : PV w' B vs ps :=
  ⟨h.1, fun i p hp => by obtain ⟨A, c, h1, h2⟩ := h.2 i p hp; exact ⟨A, c, h1, own_fr h2 f ht⟩⟩
theorem PV.alloc {w : World} {B : Nat} {vs : List Value} {ps : List (List (List Int))} (h : PV w B vs ps) (o : Obj) : PV (w.alloc o) B vs ps :=
  ⟨h.1, fun i p hp => by obtain ⟨A, c, h1, h2⟩ := h.2 i p hp; exact ⟨A, c, h1, h2.alloc o⟩⟩
theorem own_kept {w w' : World} {base size n : Nat} {e : TypeId} {v : Value} {xs : List Value} {row : Option Nat} (h : w.ownsRow base e size v n xs) (hg : w.grownBy w' row) (hr : ∀ k, row = some k → ∃ (cs : Array Value) (t : TypeId) (fr : Nat × Nat), w.heap[k]? = some (.cells cs t fr) ∧ e ≠ t) : w'.ownsRow base e size v n xs :=
  own_of_block h fun g hgv => hg.block g (h.lt g hgv).2 (fun e0 => by
    obtain ⟨cs, t, fr, hh, hne⟩ := hr g e0.symm
    exact own_ne h hh hne hgv)
theorem PV.grown {w w' : World} {B : Nat} {vs : List Value} {ps : List (List (List Int))} {row : Option Nat} (h : PV w B vs ps) (hg : w.grownBy w' row) (hr : ∀ k, row = some k → ∃ (cs : Array Value) (t : TypeId) (fr : Nat × Nat), w.heap[k]? = some (.cells cs t fr) ∧ 75 ≠ t) : PV w' B vs ps :=
  ⟨h.1, fun i p hp => by obtain ⟨A, c, h1, h2⟩ := h.2 i p hp; exact ⟨A, c, h1, own_kept h2 hg hr⟩⟩
theorem PV.snoc {w : World} {B : Nat} {vs : List Value} {ps : List (List (List Int))} (h : PV w B vs ps) {p : List (List Int)} {A : Option Addr} {c : Nat} (hp : w.ownsRow B 75 5 (.slice A p.length c) p.length (cI p)) : PV w B (vs ++ [.slice A p.length c]) (ps ++ [p]) := by
  refine ⟨by simp [h.1], fun i q hq => ?_⟩
  by_cases hi : i < ps.length
  · rw [List.getElem?_append_left hi] at hq
    obtain ⟨A', c', h1, h2⟩ := h.2 i q hq
    exact ⟨A', c', by rw [List.getElem?_append_left (by rw [h.1]; exact hi)]; exact h1, h2⟩
  · rw [List.getElem?_append_right (by omega)] at hq
    have hi2 : i = ps.length := by
      have := (List.getElem?_eq_some_iff.1 hq).1
      simp at this
      omega
    subst hi2
    simp at hq
    subst hq
    exact ⟨A, c, by rw [List.getElem?_append_right (by rw [h.1]; omega), h.1]; simp, hp⟩

/-! ### P -/
def InvP (B g : Nat) (w : World) (n : Nat) (l1 : List Int) (v i : Value) (wr : World) : Prop := ∃ (vs : List Value) (xs : List (List (List Int))) (l' : List Int), PV wr w.heap.size vs xs ∧ wr.ownsRow w.heap.size 53 1 v xs.length vs ∧ i = .int .u64 xs.length ∧ Part rP n l1 xs l' ∧ Rd B wr g l' ∧ Fr TR B w wr ∧ xs.length + l'.length ≤ l1.length
def IsP (B g : Nat) (w : World) (l : List Int) (e : Ending) (w' : World) : Prop :=
  Fr TR B w w' ∧ ((rL rP l = none ∧ Fails e) ∨ ∃ vs xs l' A c, PV w' w.heap.size vs xs ∧ rL rP l = some (xs, l') ∧ e = .returned (.slice A xs.length c) ∧ Rd B w' g l' ∧ w'.ownsRow w.heap.size 53 1 (.slice A xs.length c) xs.length vs)
set_option maxHeartbeats 4000000 in
set_option maxRecDepth 100000 in
theorem a_listP (B g : Nat) (l : List Int) (w : World) (h : Rd B w g l) : Calls Try.prog 40 #[.pointer (some ⟨g, 0, none⟩), .func (.func 41) #[.pointer (some ⟨g, 0, none⟩)] #[]] w fun e w' => IsP B g w l e w' := by
  obtain ⟨i0, hi, hz0, hz1, hz2⟩ := info_parts info_prog
  have hB := h.2.1
  cases hu : rU l with
  | none =>
    have HN := Lib.hid (rL_none (f := rP) hu)
    go_enter Try.func40, Try.ntmps40
    go_wp2_with fail
    refine (u_no h hu).mono ?_
    rintro e w1 ⟨rfl, hf⟩
    exact ⟨rfl, hf, .inl ⟨HN.out, rfl⟩⟩
  | some y =>
    obtain ⟨n, l1⟩ := y
    have hn := (exact_u.of l n l1 (Rd.inB h) hu).2
    have HL := Lib.hid (rL_some (f := rP) hu)
    have hlt := rU_lt hu
    have hll := h.2.2.1
    have hgl : g < w.heap.size := by obtain ⟨_, _, _, _, _, _, hm, _⟩ := h; exact hm.lt
    go_enter Try.func40, Try.ntmps40
    go_wp2_with fail
    refine (u_yes h hu).mono ?_
    rintro e w1 ⟨rfl, hr1, hf1⟩
    obtain ⟨m, rfl⟩ := Int.eq_ofNat_of_zero_le hn.1
    have hm := hn.2
    rw [Int.toNat_natCast] at HL
    clear hn h hu
    go_wp2
    go_loopw [5, 8] (fun v i wr => InvP B g w m l1 v i wr) (fun _ i _ => m - (intOf i).toNat)
    case atStart => exact ⟨[], [], l1, ⟨rfl, fun i p h => by cases h⟩, World.ownsRow_nil _ _ _ _, rfl, Part.start _ _, hr1, hf1, by simp⟩
    case round =>
      obtain ⟨vs, xs, l', hpv, hown, rfl, hpart, hrd, hfr, hxl⟩ := hrel
      have hrl := hrd.2.2.1
      have HP := Lib.hid hpart
      clear hpart
      by_cases hlt2 : xs.length < m
      · cases hu : rP l' with
        | none =>
          have HN := Lib.hid (show rL rP l = none by rw [HL.out]; exact HP.out.no hlt2 hu)
          clear hown hpv
          go_wp2_with fail
          refine (p_no hrd hu).mono ?_
          rintro e w2 ⟨rfl, hf⟩
          exact ⟨rfl, hfr.trans hf, .inl ⟨HN.out, rfl⟩⟩
        | some y =>
          obtain ⟨x, l''⟩ := y
          have HP2 := Lib.hid (HP.out.step hlt2 hu)
          have hlx := rP_lt hu
          have HOW := Lib.hid hown
          obtain ⟨A, c, rfl, hl1, hl2⟩ := own_slice hown
          have hsz := hfr.size
          clear hown
          go_wp2_with fail
          refine (p_yes hrd hu).mono ?_
          rintro e w2 ⟨⟨Ax, cx, rfl, hox⟩, hr2, hf2⟩
          have hpv2 := (hpv.fr hf2 (by unfold TR; decide)).snoc (own_mono hox hsz)
          have hown2 := own_fr HOW.out hf2 (by unfold TR; decide)
          have hsz2 := hf2.size
          clear hrd hu
          go_wp2_with (at_builtin; refine wpList_append_own _ rfl _ _ 26 rfl w.heap.size 53 i0 _ 1 24 Try.underlying26 hi hz0 hz1 hz2 rfl (by decide) _ xs.length vs rfl (hown2.alloc _) ⟨w2.heap.size, 0, none⟩ 1 1 [.slice Ax x.length cx] rfl rfl ?c1 ?c2 ?c3 ?c4 ?c5 ?_)
          case c1 => exact cell_lit (W := w2) (l := [.slice Ax x.length cx])
          case c2 => simp [Value.oneCell']
          case c3 => unfold maxLen; omega
          case c4 => omega
          case c5 => simp; omega
          intro v' w3 hown3 hgrow _
          have hr3 := (hr2.alloc (.cells #[.slice Ax x.length cx] 53)).grown hgrow (fun k hk => ⟨by have := (hown2.lt k hk).1; omega, fun e => own_not hown2 hgl (e ▸ hk)⟩)
          have hf3 := (((hfr.trans hf2).alloc (by omega) (.cells #[.slice Ax x.length cx] 53))).grownNew hB hgrow (fun k hk => (hown2.lt k hk).1)
          have HO3 := Lib.hid (show w3.ownsRow w.heap.size 53 1 v' (xs ++ [x]).length (vs ++ [.slice Ax x.length cx]) by
            rw [show (xs ++ [x]).length = xs.length + 1 by simp]
            exact hown3)
          have HR3 := Lib.hid hr3
          have HV3 := Lib.hid ((hpv2.alloc (.cells #[.slice Ax x.length cx] 53)).grown hgrow (fun k hk => by obtain ⟨_, cs, t, fr, hh, rfl⟩ := own_row (hown2.alloc (.cells #[.slice Ax x.length cx] 53)) k hk; exact ⟨cs, _, fr, hh, by decide⟩))
          clear hown3 hown2 hgrow hr2 hr3 HOW hpv2 hpv hox
          go_wp2
          go_roundw
          case rel => exact ⟨vs ++ [.slice Ax x.length cx], xs ++ [x], l'', HV3.out, HO3.out, by simp only [List.length_append, List.length_cons, List.length_nil]; go_num, HP2.out, HR3.out, hf3, by simp only [List.length_append, List.length_cons, List.length_nil]; omega⟩
          case measure => simp [intOf]; omega
      · have hle := HP.out.1
        obtain rfl : xs.length = m := by omega
        have HPV := Lib.hid hpv
        have HY := Lib.hid (show rL rP l = some (xs, l') by rw [HL.out]; exact HP.out.all rfl)
        have HOW := Lib.hid hown
        obtain ⟨A, c, rfl, hl1, hl2⟩ := own_slice hown
        clear hown hpv
        go_wp2
        go_ret
        exact ⟨hfr, .inr ⟨vs, xs, l', A, c, HPV.out, HY.out, rfl, hrd, HOW.out⟩⟩
end Go.Proofs.Ytafidppjabdecaa.CodeJ
