/-
  Contracts of slices.Index, slices.Contains, strongtxkit.In and Place; of the sets: the program's and the reference's.
-/
import Derived.Test.YtcohfgenpbhfeaaRsA
import Derived.Deep.RegionHeld3
import Derived.Deep.RegionLaw
namespace Go.Proofs.Ytcohfgenpbhfeaa.RsB
open Go.ChangeShapes Go.WideShapes Go.ChangeAt Go.RowKit
open PlainT BlkW CelS CelM CelV CelN LabD FreV FreI RsA
set_option linter.unusedVariables false
set_option maxHeartbeats 1000000
set_option maxRecDepth 100000

theorem s_index (w : World) (v : Value) (xs : List Int) (x : Int) (h : RdI w v xs) (hl : xs.length ≤ 100000) : Calls Try.prog 21 #[v, .int .i64 x] w fun e w' => ∃ k : Int, e = .returned (.int .i64 k) ∧ (0 ≤ k ↔ x ∈ xs) ∧ w' = w := by
  obtain ⟨p, c, rfl, hc⟩ := h
  obtain ⟨n, hn⟩ : ∃ n, xs.length = n := ⟨_, rfl⟩
  rw [hn] at hl ⊢
  have HN := Lib.hid hn
  have HC := Lib.hid hc
  clear hn hc
  go_enter Try.func21, Try.ntmps21
  go_wp2_with fail
  go_loopw [8] (fun kv wr => ∃ k : Nat, k ≤ n ∧ kv = .int .i64 k ∧ (x ∈ xs ↔ x ∈ xs.drop k) ∧ wr = w) (fun kv _ => n - (intOf kv).toNat)
  case atStart => exact ⟨0, by omega, rfl, by simp, rfl⟩
  case round =>
    obtain ⟨k, hk, rfl, hin, rfl⟩ := hrel
    have HI := Lib.hid hin
    clear hin
    by_cases hlt : k < n
    · have hlk : (k : Int) < n := by omega
      obtain ⟨y, hy⟩ : ∃ y, xs[k]? = some y := ⟨xs[k]'(by rw [HN.out]; exact hlt), by rw [List.getElem?_eq_getElem]⟩
      obtain ⟨g, o, rfl, hcc⟩ := HC.out k y hy
      have HY := Lib.hid hy
      clear hy
      by_cases hxy : x = y
      · have hb : (x == y) = true := by simp [hxy]
        have hf : Hid (x ∈ xs) := Lib.hid (by rw [hxy]; exact in_here HY.out)
        clear hxy
        go_wp2_with fail
        go_ret
        exact ⟨k, rfl, ⟨fun _ => hf.out, fun _ => by omega⟩, rfl⟩
      · have hb : (x == y) = false := by simp [hxy]
        have hf := Lib.hid (HI.out.trans (in_drop HY.out hxy))
        clear hxy HI
        go_wp2_with fail
        go_roundw
        case rel => exact ⟨k + 1, by omega, by go_num, hf.out, trivial⟩
        case measure => simp [intOf]; omega
    · obtain rfl : k = n := by omega
      have hf : Hid (¬ x ∈ xs) := Lib.hid (by rw [HI.out, List.drop_eq_nil_of_le (by rw [HN.out]; exact Nat.le_refl _)]; simp)
      clear HI hlt hk
      go_wp2_with fail
      go_ret
      exact ⟨-1, rfl, ⟨fun h => by omega, fun h => absurd h hf.out⟩, rfl⟩
theorem s_contains (w : World) (v : Value) (xs : List Int) (x : Int) (h : RdI w v xs) (hl : xs.length ≤ 100000) : Calls Try.prog 20 #[v, .int .i64 x] w fun e w' => e = .returned (.bool (decide (x ∈ xs))) ∧ w' = w := by
  have hc := s_index w v xs x h hl
  obtain ⟨p, c, rfl, _⟩ := h
  go_enter Try.func20, Try.ntmps20
  go_wp2_with (go_at_call 21; refine hc.mono ?_; rintro e w2 ⟨k, rfl, hk, rfl⟩)
  go_ret
  exact ⟨rfl, rfl⟩
theorem k_in (w : World) (v : Value) (xs : List Int) (x : Int) (h : RdI w v xs) (hl : xs.length ≤ 100000) : Calls Try.prog 17 #[v, .int .i64 x] w fun e w' => e = .returned (.bool (decide (x ∈ xs))) ∧ w' = w := by
  obtain ⟨p, c, rfl, hc⟩ := h
  obtain ⟨n, hn⟩ : ∃ n, xs.length = n := ⟨_, rfl⟩
  rw [hn] at hl ⊢
  have HN := Lib.hid hn
  have HC := Lib.hid hc
  clear hn hc
  go_enter Try.func17, Try.ntmps17
  go_wp2_with fail
  go_loopw [5] (fun kv wr => ∃ k : Nat, k ≤ n ∧ kv = .int .i64 k ∧ (x ∈ xs ↔ x ∈ xs.drop k) ∧ wr = w) (fun kv _ => n - (intOf kv).toNat)
  case atStart => exact ⟨0, by omega, rfl, by simp, rfl⟩
  case round =>
    obtain ⟨k, hk, rfl, hin, rfl⟩ := hrel
    have HI := Lib.hid hin
    clear hin
    by_cases hlt : k < n
    · have hlk : (k : Int) < n := by omega
      obtain ⟨y, hy⟩ : ∃ y, xs[k]? = some y := ⟨xs[k]'(by rw [HN.out]; exact hlt), by rw [List.getElem?_eq_getElem]⟩
      obtain ⟨g, o, rfl, hcc⟩ := HC.out k y hy
      have HY := Lib.hid hy
      clear hy
      by_cases hxy : x = y
      · have hb : (y == x) = true := by simp [hxy]
        have hf : Hid (decide (x ∈ xs) = true) := Lib.hid (decide_eq_true (by rw [hxy]; exact in_here HY.out))
        clear hxy
        go_wp2_with fail
        go_ret
        rw [hf.out]; first | exact ⟨rfl, rfl⟩ | exact ⟨rfl, trivial⟩ | trivial
      · have hb : (y == x) = false := by simp [Ne.symm hxy]
        have hf := Lib.hid (HI.out.trans (in_drop HY.out hxy))
        clear hxy HI
        go_wp2_with fail
        go_roundw
        case rel => exact ⟨k + 1, by omega, by go_num, hf.out, trivial⟩
        case measure => simp [intOf]; omega
    · obtain rfl : k = n := by omega
      have hf : Hid (decide (x ∈ xs) = false) := Lib.hid (decide_eq_false (by rw [HI.out, List.drop_eq_nil_of_le (by rw [HN.out]; exact Nat.le_refl _)]; simp))
      clear HI hlt hk
      go_wp2_with fail
      go_ret
      rw [hf.out]; first | exact ⟨rfl, rfl⟩ | exact ⟨rfl, trivial⟩ | trivial
/-- A number reduced below m. -/
def pl (a m : Int) : Int := wrap64 ((IntKind.u64.wrap a).tmod m)
theorem pl_in (a m : Int) (h0 : 0 < m) (h1 : m ≤ 1000) : 0 ≤ pl a m ∧ pl a m ≤ m - 1 := by
  have hu : 0 ≤ IntKind.u64.wrap a := (bounds_u64 (wf_wrap .u64 a)).1
  unfold pl
  rw [Int.tmod_eq_emod_of_nonneg hu]
  have a0 := Int.emod_nonneg (IntKind.u64.wrap a) (by omega : m ≠ 0)
  have a1 := Int.emod_lt_of_pos (IntKind.u64.wrap a) h0
  rw [IntWalk.wrap64_in _ (by omega)]
  omega
theorem k_place (a m v : Int) (h0 : 0 < m) (h1 : m ≤ 1000) (hv : pl a m = v) (w : World) : Calls Try.prog 10 #[.int .i64 a, .int .i64 m] w fun e w' => e = .returned (.int .i64 v) ∧ w = w' := by
  have hw : IntKind.u64.wrap m = m := Int.emod_eq_of_lt (by omega) (by show m < 18446744073709551616; omega)
  have hv2 : wrap64 ((IntKind.u64.wrap a).tmod m) = v := hv
  clear hv
  go_enter Try.func10, Try.ntmps10
  go_wp2
  go_ret
  exact ⟨by rw [← hv2]; rfl, rfl⟩
/-- Place, whatever it gives. -/
theorem k_place_ex (a m : Int) (h0 : 0 < m) (h1 : m ≤ 1000) (w : World) : Calls Try.prog 10 #[.int .i64 a, .int .i64 m] w fun e w' => ∃ v, 0 ≤ v ∧ v ≤ m - 1 ∧ e = .returned (.int .i64 v) ∧ w = w' :=
  (k_place a m _ h0 h1 rfl w).mono fun e w' ⟨h, hw⟩ => ⟨_, (pl_in a m h0 h1).1, (pl_in a m h0 h1).2, h, hw⟩

/-! ### The sets. -/
abbrev TS : TypeId := 39
abbrev TR : TypeId := 32
/-- A set's box and its row. -/
structure SetIs (w : World) (B g : Nat) (t : TypeId) (cap : Int) (v : Value) (xs : List Int) : Prop where
  box : Mem w g t #[.int .i64 cap, v]
  row : OwnI w B v xs
  gB : B ≤ g
  ne : TI ≠ t
  few : (xs.length : Int) ≤ cap
  cap0 : cap ≤ 32
/-- A set's blocks. -/
def PS (g : Nat) (v : Value) (x : Nat) : Prop := x = g ∨ v.ownBlock = some x
section
variable {w w' : World} {B g : Nat} {t : TypeId} {cap x : Int} {v : Value} {xs : List Int} {P : Nat → Prop}
theorem own_fr (h : OwnI w B v xs) (k : Fr P w w') (hp : ∀ x, v.ownBlock = some x → ¬ P x) : OwnI w' B v xs := own_of_block h fun g hg => k.block g (h.lt g hg).2 (hp g hg)
theorem SetIs.fr (h : SetIs w B g t cap v xs) (k : Fr P w w') (h1 : ¬ P g) (hp : ∀ x, v.ownBlock = some x → ¬ P x) : SetIs w' B g t cap v xs :=
  ⟨mem_fr h.box k h1, own_fr h.row k hp, h.gB, h.ne, h.few, h.cap0⟩
theorem SetIs.below (h : SetIs w B g t cap v xs) (k : Below w.heap.size w w') : SetIs w' B g t cap v xs := h.fr (P := fun _ => False) (Fr.of_below k) id fun _ _ => id
theorem SetIs.drewN (h : SetIs w B g t cap v xs) (n : Nat) : SetIs (w.drewN n) B g t cap v xs := h.below (below_drewN (Below.refl _ w) n)
theorem SetIs.alloc (h : SetIs w B g t cap v xs) (o : Obj) : SetIs (w.alloc o) B g t cap v xs := h.below (below_new w o)
theorem SetIs.slice (h : SetIs w B g t cap v xs) : ∃ A c, v = .slice A xs.length c := let ⟨A, c, e, _⟩ := own_slice h.row; ⟨A, c, e⟩
theorem SetIs.rd (h : SetIs w B g t cap v xs) : RdI w v xs := rdi_own h.row
theorem SetIs.len (h : SetIs w B g t cap v xs) : xs.length ≤ 32 := by have := h.few; have := h.cap0; omega
theorem SetIs.off (h : SetIs w B g t cap v xs) : v.ownBlock ≠ some g := own_ne_mem h.row h.box h.ne
end
/-- What a set holds behind an addition, and its answer. -/
def adds (cap : Int) (xs : List Int) (x : Int) : List Int := if x ∈ xs then xs else if (xs.length : Int) < cap then xs ++ [x] else xs
def said (cap : Int) (xs : List Int) (x : Int) : Bool := decide (x ∈ xs) || decide ((xs.length : Int) < cap)
theorem a_has (w : World) (B g : Nat) (cap : Int) (v : Value) (xs : List Int) (x : Int) (h : SetIs w B g TS cap v xs) : Calls Try.prog 16 #[.pointer (some ⟨g, 0, none⟩), .int .i64 x] w fun e w' => e = .returned (.bool (decide (x ∈ xs))) ∧ w' = w := by
  have hl := h.len
  have hc := s_contains w v xs x h.rd (by omega)
  obtain ⟨A, c, rfl⟩ := h.slice
  have b1 : w.cell? ⟨g, 1, none⟩ = some (.slice A xs.length c) := h.box.cell 1
  clear h
  go_enter Try.func16, Try.ntmps16
  go_wp2_with (go_at_call 20; refine hc.mono ?_; rintro e w2 ⟨rfl, rfl⟩)
  go_ret
  exact ⟨rfl, rfl⟩
theorem a_has_nil (w : World) (x : Int) : Calls Try.prog 16 #[.pointer none, .int .i64 x] w fun e w' => e = .returned (.bool false) ∧ w' = w := by
  go_enter Try.func16, Try.ntmps16
  go_wp2_with fail
  go_ret
  exact ⟨rfl, rfl⟩
theorem a_len (w : World) (B g : Nat) (cap : Int) (v : Value) (xs : List Int) (h : SetIs w B g TS cap v xs) : Calls Try.prog 13 #[.pointer (some ⟨g, 0, none⟩)] w fun e w' => e = .returned (.int .i64 xs.length) ∧ w' = w := by
  obtain ⟨A, c, rfl⟩ := h.slice
  have b1 : w.cell? ⟨g, 1, none⟩ = some (.slice A xs.length c) := h.box.cell 1
  clear h
  go_enter Try.func13, Try.ntmps13
  go_wp2_with fail
  go_ret
  exact ⟨rfl, rfl⟩
theorem a_len_nil (w : World) : Calls Try.prog 13 #[.pointer none] w fun e w' => e = .returned (.int .i64 0) ∧ w' = w := by
  go_enter Try.func13, Try.ntmps13
  go_wp2_with fail
  go_ret
  exact ⟨rfl, rfl⟩
theorem a_new (w : World) (c q : Int) (hq : max 0 (min c 32) = q) : Calls Try.prog 8 #[.int .i64 c] w fun e w' => e = .returned (.pointer (some ⟨w.heap.size, 0, none⟩)) ∧ w' = w.alloc (.cells #[.int .i64 q, .slice none 0 0] TS) := by
  have hcs : (c < 0 ∧ q = 0) ∨ (0 ≤ c ∧ 32 < c ∧ q = 32) ∨ (0 ≤ c ∧ c ≤ 32 ∧ q = c) := by omega
  clear hq
  rcases hcs with ⟨h1, rfl⟩ | ⟨h1, h2, rfl⟩ | ⟨h1, h2, rfl⟩
  all_goals go_enter Try.func8, Try.ntmps8
  all_goals go_wp2_with fail
  all_goals go_ret
  all_goals exact ⟨rfl, rfl⟩
theorem r_new (w : World) (c q : Int) (hq : max 0 (min c 32) = q) : Calls Try.prog 9 #[.int .i64 c] w fun e w' => e = .returned (.pointer (some ⟨w.heap.size, 0, none⟩)) ∧ w' = w.alloc (.cells #[.int .i64 q, .slice none 0 0] TR) := by
  have hcs : (c < 0 ∧ q = 0) ∨ (0 ≤ c ∧ 32 < c ∧ q = 32) ∨ (0 ≤ c ∧ c ≤ 32 ∧ q = c) := by omega
  clear hq
  have hcl : ∀ w, Calls Try.prog 19 #[.int .i64 c, .int .i64 32] w fun e w' => e = .returned (.int .i64 q) ∧ w' = w := fun w => by
    rcases hcs with ⟨h1, rfl⟩ | ⟨h1, h2, rfl⟩ | ⟨h1, h2, rfl⟩
    all_goals go_enter Try.func19, Try.ntmps19
    all_goals go_wp2_with fail
    all_goals go_ret
    all_goals first | exact ⟨rfl, rfl⟩ | (obtain rfl : q = 0 := by omega
                                          exact ⟨rfl, rfl⟩)
  clear hcs
  go_enter Try.func9, Try.ntmps9
  go_wp2_with (go_at_call 19; refine (hcl _).mono ?_; rintro e w2 ⟨rfl, rfl⟩)
  go_ret
  exact ⟨rfl, rfl⟩
theorem set_new (w : World) (t : TypeId) (B : Nat) (q : Int) (hne : TI ≠ t) (hB : B ≤ w.heap.size) (h0 : 0 ≤ q) (h1 : q ≤ 32) : SetIs (w.alloc (.cells #[.int .i64 q, .slice none 0 0] t)) B w.heap.size t q (.slice none 0 0) [] :=
  ⟨Mem.new w t _, World.ownsRow_nil _ _ _ _, hB, hne, h0, h1⟩

/-- What an addition leaves. -/
def Added (B g : Nat) (t : TypeId) (cap : Int) (v : Value) (xs : List Int) (x : Int) (w : World) (e : Ending) (w' : World) : Prop :=
  e = .returned (.bool (said cap xs x)) ∧ ∃ v', SetIs w' B g t cap v' (adds cap xs x) ∧ Fr (PS g v) w w' ∧ (v'.ownBlock = v.ownBlock ∨ ∃ y, v'.ownBlock = some y ∧ w.heap.size ≤ y)
theorem add_plan {w : World} {B g : Nat} {t : TypeId} {cap x : Int} {A : Option Addr} {c : Nat} {xs : List Int} (h : SetIs w B g t cap (.slice A xs.length c) xs) (hB : B ≤ w.heap.size) (hin : ¬ x ∈ xs) (hfull : (xs.length : Int) < cap) (n : Nat) :
    ∃ A' c' w', (Builtin.append_ #[22, 22] 22 #[.slice A xs.length c, .slice (some ⟨w.heap.size, 0, none⟩) 1 1]).run Try.prog ((w.drewN n).alloc (.cells #[.int .i64 x] TI)) = .ok (.slice A' (xs.length + 1) c') w' ∧
      w'.cell? ⟨g, 1, none⟩ = some (.slice A xs.length c) ∧ w'.frozen? ⟨g, 1, none⟩ = false ∧ Added B g t cap (.slice A xs.length c) xs x w (.returned (.bool true)) (w'.setCell ⟨g, 1, none⟩ (.slice A' (xs.length + 1) c')) := by
  have hd := h.drewN n
  obtain ⟨A', c', w', hrun, hown, hBw, hfr, hob⟩ := push_i (w := w.drewN n) hB hd.row (by have := h.len; omega) x
  have hM : Mem w' g t #[.int .i64 cap, .slice A xs.length c] := (hfr g hd.box.lt hd.off).trans hd.box
  have hM2 : Mem (w'.setCell ⟨g, 1, none⟩ (.slice A' (xs.length + 1) c')) g t #[.int .i64 cap, .slice A' (xs.length + 1) c'] := by
    have := hM.set_ 1 (.slice A' (xs.length + 1) c')
    simpa using this
  have hown2 : OwnI (w'.setCell ⟨g, 1, none⟩ (.slice A' (xs.length + 1) c')) B (.slice A' (xs.length + 1) c') (xs ++ [x]) := own_far hown (own_ne_mem hown hM h.ne) _
  have hF : Fr (PS g (.slice A xs.length c)) w (w'.setCell ⟨g, 1, none⟩ (.slice A' (xs.length + 1) c')) :=
    (show Fr (PS g (.slice A xs.length c)) w w' from ⟨hBw.os, hBw.tape, hBw.output, hBw.size, fun y hy hn => hfr y hy fun e => hn (.inr e)⟩).set_ ⟨g, 1, none⟩ (.inl (.inl rfl)) _
  exact ⟨A', c', w', hrun, hM.cell 1, hM.frozen 1, by unfold said; rw [decide_eq_true hfull, Bool.or_true], _, by
    unfold adds
    rw [if_neg hin, if_pos hfull]
    exact ⟨hM2, hown2, h.gB, h.ne, by rw [List.length_append]; simp; omega, h.cap0⟩, hF, hob⟩
theorem a_add (w : World) (B g : Nat) (cap : Int) (v : Value) (xs : List Int) (x : Int) (h : SetIs w B g TS cap v xs) (hB : B ≤ w.heap.size) : Calls Try.prog 11 #[.pointer (some ⟨g, 0, none⟩), .int .i64 x] w fun e w' => Added B g TS cap v xs x w e w' := by
  have hl := h.len
  have hh := a_has w B g cap v xs x h
  have hs := h.slice
  have HS := Lib.hid h
  obtain ⟨A, c, rfl⟩ := hs
  have b0 : w.cell? ⟨g, 0, none⟩ = some (.int .i64 cap) := h.box.cell 0
  have b1 : w.cell? ⟨g, 1, none⟩ = some (.slice A xs.length c) := h.box.cell 1
  clear h
  by_cases hin : x ∈ xs
  · rw [decide_eq_true hin] at hh
    have hf : Hid (Added B g TS cap (.slice A xs.length c) xs x w (.returned (.bool true)) w) := Lib.hid ⟨by unfold said; rw [decide_eq_true hin]; rfl, _, by unfold adds; rw [if_pos hin]; exact HS.out, Fr.refl _ _, .inl rfl⟩
    clear hin b0 b1 HS
    go_enter Try.func11, Try.ntmps11
    go_wp2_with (go_at_call 16; refine hh.mono ?_; rintro e w2 ⟨rfl, rfl⟩)
    go_ret
    exact hf.out
  · rw [decide_eq_false hin] at hh
    have HI := Lib.hid hin
    clear hin
    by_cases hfull : (xs.length : Int) < cap
    · have hge : decide (cap ≤ (xs.length : Int)) = false := decide_eq_false (by omega)
      go_enter Try.func11, Try.ntmps11
      go_upto_region 3 with (go_at_call 16; refine hh.mono ?_; rintro e w2 ⟨rfl, rfl⟩)
      go_quiet (fail)
      obtain ⟨A', c', w', hrun, m1, mz, hadd⟩ := add_plan HS.out hB HI.out hfull nq
      have HA := Lib.hid hadd
      clear hadd HS HI
      go_wp2_with (at_builtin; refine wpList_append_run rfl _ _ _ rfl hrun (by rfl) (by rfl) ?_)
      go_ret
      exact HA.out
    · have hge : decide (cap ≤ (xs.length : Int)) = true := decide_eq_true (by omega)
      have hf : Hid (∀ n, Added B g TS cap (.slice A xs.length c) xs x w (.returned (.bool false)) (w.drewN n)) := Lib.hid fun n => ⟨by unfold said; rw [decide_eq_false hfull, decide_eq_false HI.out]; rfl, _, by unfold adds; rw [if_neg HI.out, if_neg hfull]; exact HS.out.drewN n, (Fr.refl _ _).drewN n, .inl rfl⟩
      clear HI HS
      go_enter Try.func11, Try.ntmps11
      go_upto_region 3 with (go_at_call 16; refine hh.mono ?_; rintro e w2 ⟨rfl, rfl⟩)
      go_quiet (fail)
      go_wp2_with fail
      go_ret
      exact hf.out nq
theorem r_add (w : World) (B g : Nat) (cap : Int) (v : Value) (xs : List Int) (x : Int) (h : SetIs w B g TR cap v xs) (hB : B ≤ w.heap.size) : Calls Try.prog 12 #[.pointer (some ⟨g, 0, none⟩), .int .i64 x] w fun e w' => Added B g TR cap v xs x w e w' := by
  have hl := h.len
  have hh := k_in w v xs x h.rd (by omega)
  have hs := h.slice
  have HS := Lib.hid h
  obtain ⟨A, c, rfl⟩ := hs
  have b0 : w.cell? ⟨g, 0, none⟩ = some (.int .i64 cap) := h.box.cell 0
  have b1 : w.cell? ⟨g, 1, none⟩ = some (.slice A xs.length c) := h.box.cell 1
  have hfew := h.few
  clear h
  by_cases hin : x ∈ xs
  · rw [decide_eq_true hin] at hh
    have hf : Hid (Added B g TR cap (.slice A xs.length c) xs x w (.returned (.bool true)) w) := Lib.hid ⟨by unfold said; rw [decide_eq_true hin]; rfl, _, by unfold adds; rw [if_pos hin]; exact HS.out, Fr.refl _ _, .inl rfl⟩
    clear hin b0 HS
    go_enter Try.func12, Try.ntmps12
    go_wp2_with (go_at_call 17; refine hh.mono ?_; rintro e w2 ⟨rfl, rfl⟩)
    go_ret
    exact hf.out
  · rw [decide_eq_false hin] at hh
    have HI := Lib.hid hin
    clear hin
    by_cases hfull : (xs.length : Int) < cap
    · have hge : ((xs.length : Int) == cap) = false := by simp; omega
      go_enter Try.func12, Try.ntmps12
      go_upto_region 3 with (go_at_call 17; refine hh.mono ?_; rintro e w2 ⟨rfl, rfl⟩)
      go_quiet (fail)
      obtain ⟨A', c', w', hrun, m1, mz, hadd⟩ := add_plan HS.out hB HI.out hfull nq
      have HA := Lib.hid hadd
      clear hadd HS HI
      go_wp2_with (at_builtin; refine wpList_append_run rfl _ _ _ rfl hrun (by rfl) (by rfl) ?_)
      go_ret
      exact HA.out
    · have hge : ((xs.length : Int) == cap) = true := by simp; omega
      have hf : Hid (∀ n, Added B g TR cap (.slice A xs.length c) xs x w (.returned (.bool false)) (w.drewN n)) := Lib.hid fun n => ⟨by unfold said; rw [decide_eq_false hfull, decide_eq_false HI.out]; rfl, _, by unfold adds; rw [if_neg HI.out, if_neg hfull]; exact HS.out.drewN n, (Fr.refl _ _).drewN n, .inl rfl⟩
      clear HI HS
      go_enter Try.func12, Try.ntmps12
      go_upto_region 3 with (go_at_call 17; refine hh.mono ?_; rintro e w2 ⟨rfl, rfl⟩)
      go_quiet (fail)
      go_wp2_with fail
      go_ret
      exact hf.out nq
theorem a_add_nil (w : World) (x : Int) : Calls Try.prog 11 #[.pointer none, .int .i64 x] w fun e w' => e = .returned (.bool false) ∧ Ws w w' := by
  have hh := a_has_nil w x
  go_enter Try.func11, Try.ntmps11
  go_upto_region 3 with (go_at_call 16; refine hh.mono ?_; rintro e w2 ⟨rfl, rfl⟩)
  go_quiet (fail)
  go_wp2_with fail
  go_ret
  exact ⟨rfl, nq, rfl⟩
/-- A list that is handed out: a row of its own. -/
theorem a_list (w : World) (B g : Nat) (cap : Int) (v : Value) (xs : List Int) (h : SetIs w B g TS cap v xs) : Calls Try.prog 15 #[.pointer (some ⟨g, 0, none⟩)] w fun e w' => ∃ y, e = .returned (.slice (some ⟨y, 0, none⟩) xs.length xs.length) ∧ w.heap.size ≤ y ∧ OwnI w' w.heap.size (.slice (some ⟨y, 0, none⟩) xs.length xs.length) xs ∧ Below w.heap.size w w' := by
  have hl := h.len
  have hs := h.slice
  have HS := Lib.hid h
  obtain ⟨A, c, rfl⟩ := hs
  have b1 : w.cell? ⟨g, 1, none⟩ = some (.slice A xs.length c) := h.box.cell 1
  have hmk := fun w => make_i w xs.length (by omega)
  obtain ⟨w2, hcp, hrow, hF⟩ := copy_i (w := w.alloc (.cells (IA (List.replicate xs.length 0)) TI)) (g := w.heap.size) (Mem.new w TI _) rfl (rdi_below HS.out.rd (below_new w (.cells (IA (List.replicate xs.length 0)) TI))) 3
  have hB : Below w.heap.size w w2 := (below_new w (.cells (IA (List.replicate xs.length 0)) TI)).trans (hF.below (fun x hx => by omega) (by rw [size_new]; omega))
  have hf : Hid (OwnI w2 w.heap.size (.slice (some ⟨w.heap.size, 0, none⟩) xs.length xs.length) xs ∧ Below w.heap.size w w2) := Lib.hid ⟨own_made hrow (Nat.le_refl _) (by unfold maxLen; omega), hB⟩
  have hg := h.box.lt
  have b2 : (w.alloc (.cells (IA (List.replicate xs.length 0)) TI)).cell? ⟨g, 1, none⟩ = some (.slice A xs.length c) := (h.alloc (.cells (IA (List.replicate xs.length 0)) TI)).box.cell 1
  clear h hrow hF hB HS
  go_enter Try.func15, Try.ntmps15
  go_wp2_with fail
  go_ret
  exact ⟨_, rfl, Nat.le_refl _, hf.out⟩
theorem a_list_nil (w : World) : Calls Try.prog 15 #[.pointer none] w fun e w' => e = .returned (.slice none 0 0) ∧ w' = w := by
  go_enter Try.func15, Try.ntmps15
  go_wp2_with fail
  go_ret
  exact ⟨rfl, rfl⟩
theorem a_clear (w : World) (B g : Nat) (cap : Int) (v : Value) (xs : List Int) (h : SetIs w B g TS cap v xs) : Calls Try.prog 18 #[.pointer (some ⟨g, 0, none⟩)] w fun e w' => e = .returned (.tuple #[]) ∧ ∃ v', SetIs w' B g TS cap v' [] ∧ v'.ownBlock = v.ownBlock ∧ Fr (PS g v) w w' := by
  have hs := h.slice
  have HS := Lib.hid h
  obtain ⟨A, c, rfl⟩ := hs
  have b1 : w.cell? ⟨g, 1, none⟩ = some (.slice A xs.length c) := h.box.cell 1
  have bz := h.box.frozen 1
  have HF : Hid (Fr (PS g (.slice A xs.length c)) w (w.setCell ⟨g, 1, none⟩ (.slice A 0 c))) := Lib.hid ((Fr.refl _ w).set_ ⟨g, 1, none⟩ (.inl (.inl rfl)) _)
  have HC : Hid (SetIs (w.setCell ⟨g, 1, none⟩ (.slice A 0 c)) B g TS cap (.slice A 0 c) []) := Lib.hid (by
    have hM := h.box.set_ 1 (.slice A 0 c)
    have hc := h.cap0
    have hf := h.few
    exact ⟨by simpa using hM, own_far (own_cut h.row) (own_ne_mem (own_cut h.row) h.box h.ne) _, h.gB, h.ne, by simp; omega, hc⟩)
  clear h
  go_enter Try.func18, Try.ntmps18
  go_wp2_with fail
  go_end0
  refine ⟨rfl, _, HC.out, ?_, HF.out⟩
  cases A <;> rfl
theorem a_clear_nil (w : World) : Calls Try.prog 18 #[.pointer none] w fun e w' => e = .returned (.tuple #[]) ∧ w' = w := by
  go_enter Try.func18, Try.ntmps18
  go_wp2_with fail
  exact bodyPost_ret (results_none (by rfl) _ _ _) rfl ⟨rfl, rfl⟩
/-- An addition whose answer is known. -/
def AddedTo (B g : Nat) (t : TypeId) (cap : Int) (v : Value) (r : Bool) (ys : List Int) (w : World) (e : Ending) (w' : World) : Prop :=
  e = .returned (.bool r) ∧ ∃ v', SetIs w' B g t cap v' ys ∧ Fr (PS g v) w w' ∧ (v'.ownBlock = v.ownBlock ∨ ∃ y, v'.ownBlock = some y ∧ w.heap.size ≤ y)
theorem a_add_to {w : World} {B g : Nat} {cap : Int} {v : Value} {xs : List Int} (h : SetIs w B g TS cap v xs) (hB : B ≤ w.heap.size) (x : Int) (r : Bool) (ys : List Int) (hr : said cap xs x = r) (hy : adds cap xs x = ys) : Calls Try.prog 11 #[.pointer (some ⟨g, 0, none⟩), .int .i64 x] w fun e w' => AddedTo B g TS cap v r ys w e w' := by
  subst hr hy
  exact a_add w B g cap v xs x h hB
theorem r_add_to {w : World} {B g : Nat} {cap : Int} {v : Value} {xs : List Int} (h : SetIs w B g TR cap v xs) (hB : B ≤ w.heap.size) (x : Int) (r : Bool) (ys : List Int) (hr : said cap xs x = r) (hy : adds cap xs x = ys) : Calls Try.prog 12 #[.pointer (some ⟨g, 0, none⟩), .int .i64 x] w fun e w' => AddedTo B g TR cap v r ys w e w' := by
  subst hr hy
  exact r_add w B g cap v xs x h hB
/-- A set's step leaves all below its base. -/
theorem SetIs.step {w w' : World} {B g : Nat} {t : TypeId} {cap : Int} {v : Value} {xs : List Int} (h : SetIs w B g t cap v xs) (hB : B ≤ w.heap.size) (k : Fr (PS g v) w w') : Below B w w' :=
  k.below (fun x hx => by
    rcases hx with rfl | hx
    · exact h.gB
    · exact (own_row h.row x hx).1) hB
theorem rdi_lit (w : World) (xs : List Int) : RdI (w.alloc (.cells (IA xs) TI)) (.slice (some ⟨w.heap.size, 0, none⟩) xs.length xs.length) xs :=
  ⟨_, _, rfl, fun j x hj => ⟨_, _, rfl, by
    rw [(Mem.new w TI (IA xs)).cell]
    unfold IA
    rw [Nat.zero_add, List.getElem?_toArray, List.getElem?_map, hj]
    rfl⟩⟩
end Go.Proofs.Ytcohfgenpbhfeaa.RsB
