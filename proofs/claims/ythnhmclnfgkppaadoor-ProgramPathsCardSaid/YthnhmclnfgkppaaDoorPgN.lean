/-
  Contracts of package program: the weights, Longest.
-/
import Derived.Test.YthnhmclnfgkppaaDoorPgH
import Derived.Deep.RegionLaw
import Derived.Deep.RegionHeld3
namespace Go.Proofs.YthnhmclnfgkppaaDoor.PgN
open Go.ChangeShapes Go.WideShapes Go.ChangeAt Go.RowKit Go.Shelf
open PlainT IsaE IsaS BlkW IsaA IsaB IsaF PrgS PrgC PgS PgA PgB PgT PgU PgC PgD PgE PgF PgV PgW PgX PgH
set_option linter.unusedVariables false
set_option maxHeartbeats 2000000

/-- An instruction as a value. -/
abbrev insX (x : I5) : Value := .agg #[.int .i64 x.op, .int .i64 x.a, .int .i64 x.b, .int .i64 x.c, .int .i64 x.i]
abbrev cellsX (x : I5) : Array Value := #[.int .i64 x.op, .int .i64 x.a, .int .i64 x.b, .int .i64 x.c, .int .i64 x.i]
def oneOf (zs : List Int) (x : I5) : Int := if x.op ∈ zs then 1 else 0
def wOne (x : I5) : Int := 1
def wRd (x : I5) : Int := oneOf [10, 15] x
def wWr (x : I5) : Int := if x.op = 14 then 2 ^ x.i.toNat + 1 else oneOf [11, 15] x
def wAl (x : I5) : Int := oneOf [14] x
def wFr (x : I5) : Int := oneOf [15] x
theorem oneOf_in (zs : List Int) (x : I5) : 0 ≤ oneOf zs x ∧ oneOf zs x ≤ 1 := by
  unfold oneOf
  split <;> omega
theorem imm_of (k : Nat) (hk : k < 18) (h0 : loI k = 0) (h1 : hiI k = 3) {a b c i : Int} (h : chk (k : Int) a b c i = 0) : 0 ≤ i ∧ i ≤ 3 := by
  unfold chk at h
  rw [if_pos (by omega)] at h
  by_cases hf : fit (k : Int).toNat a b c i = true
  · rw [Int.toNat_natCast] at hf
    unfold fit at hf
    simp only [Bool.and_eq_true, decide_eq_true_eq, h0, h1] at hf
    omega
  · rw [if_neg hf] at h
    cases h
theorem al_imm {x : I5} (h : chkI x = 0) (h14 : x.op = 14) : 0 ≤ x.i ∧ x.i ≤ 3 := by
  unfold chkI at h
  rw [h14] at h
  exact imm_of 14 (by omega) rfl rfl h
theorem wWr_in {x : I5} (h : chkI x = 0) : 0 ≤ wWr x ∧ wWr x ≤ 9 := by
  unfold wWr
  by_cases h14 : x.op = 14
  · rw [if_pos h14]
    obtain ⟨h0, h1⟩ := al_imm h h14
    have : x.i = 0 ∨ x.i = 1 ∨ x.i = 2 ∨ x.i = 3 := by omega
    rcases this with e | e | e | e <;> rw [e] <;> decide
  · rw [if_neg h14]
    have := oneOf_in [11, 15] x
    omega
theorem a_one (x : I5) (w : World) : Calls Tryd.prog 28 #[insX x] w fun e w' => e = .returned (.int .i64 1) ∧ Below w.heap.size w w' := by
  go_enter Tryd.func28, Tryd.ntmps28
  go_wp2
  go_ret
  exact ⟨rfl, below_new _ _⟩
theorem a_ones (A : Option Addr) (n c : Nat) (w : World) : Calls Tryd.prog 32 #[.slice A n c] w fun e w' => e = .returned (.func (.func 55) #[] #[.pointer (some ⟨w.heap.size, 0, none⟩)]) ∧ w' = w.alloc (.cells #[.slice A n c] 22) := by
  go_enter Tryd.func32, Tryd.ntmps32
  go_wp2
  go_ret
  exact ⟨rfl, rfl⟩
/-- The closure of ones: its operations lie in a row. -/
theorem a_oneOf (x : I5) (b g n c : Nat) (zs : List Int) (w : World) (hn : n ≤ 2) (hz : zs.length = n) (hb : Mem w b 22 #[.slice (some ⟨g, 0, none⟩) n c]) (hg : Mem w g 3 (zs.map (Value.int .i64)).toArray) :
    Calls Tryd.prog 55 #[insX x, .pointer (some ⟨b, 0, none⟩)] w fun e w' => e = .returned (.int .i64 (oneOf zs x)) ∧ Below w.heap.size w w' := by
  subst hz
  have c0 : w.cell? ⟨b, 0, none⟩ = some (.slice (some ⟨g, 0, none⟩) zs.length c) := hb.cell 0
  have hbl := hb.lt
  have hgl := hg.lt
  have HG := Lib.hid hg
  have HB := Lib.hid (below_new w (.cells (cellsX x) 31))
  have hm := Mem.new w 31 (cellsX x)
  have d0 : (w.alloc (.cells (cellsX x) 31)).cell? ⟨w.heap.size, 0, none⟩ = some (.int .i64 x.op) := hm.cell 0
  have HM := Lib.hid hm
  clear hb hg hm
  go_enter Tryd.func55, Tryd.ntmps55
  go_wp2_with fail
  go_loopw [8] (fun jv wr => ∃ j : Nat, jv = .int .i64 j ∧ j ≤ zs.length ∧ Hid (x.op ∉ zs.take j) ∧ wr = w.alloc (.cells (cellsX x) 31)) (fun jv _ => zs.length - (intOf jv).toNat)
  case atStart => exact ⟨0, rfl, by omega, Lib.hid (by simp), rfl⟩
  case round =>
    obtain ⟨j, rfl, hj, hno, rfl⟩ := hrel
    by_cases hlt : j < zs.length
    · have hltI : (j : Int) < zs.length := by omega
      have hc : (w.alloc (.cells (cellsX x) 31)).cell? ⟨g, j, none⟩ = some (.int .i64 (zs[j]'hlt)) := by
        rw [(HG.out.alloc _).cell j]
        simp [hlt]
      obtain ⟨z, hzz⟩ : ∃ z, zs[j]'hlt = z := ⟨_, rfl⟩
      rw [hzz] at hc
      have HZ := Lib.hid hzz
      clear hzz
      by_cases he : x.op = z
      · have he' : (x.op == z) = true := beq_iff_eq.2 he
        have hy : oneOf zs x = 1 := by unfold oneOf; rw [if_pos (by rw [he, ← HZ.out]; exact List.getElem_mem _)]
        have HY := Lib.hid hy
        clear he hy
        go_wp2_with fail
        go_ret
        exact ⟨by rw [HY.out]; rfl, HB.out⟩
      · have he' : (x.op == z) = false := beq_eq_false_iff_ne.2 he
        have hno' : x.op ∉ zs.take (j + 1) := by
          rw [List.take_add_one, List.getElem?_eq_getElem hlt, HZ.out]
          intro h
          rcases List.mem_append.1 h with h | h
          · exact hno.out h
          · simp at h; exact he h
        have HN := Lib.hid hno'
        clear he hno'
        go_wp2_with fail
        go_roundw
        case rel => exact ⟨j + 1, by go_num, by omega, HN, by first | rfl | trivial⟩
        case measure => simp [intOf]; omega
    · obtain rfl : j = zs.length := by omega
      have hy : oneOf zs x = 0 := by
        unfold oneOf
        have := hno.out
        rw [List.take_length] at this
        rw [if_neg this]
      have HY := Lib.hid hy
      clear hy
      go_wp2_with fail
      go_ret
      exact ⟨by rw [HY.out]; rfl, HB.out⟩
/-- What a region that counts finds in the instruction's box. -/
theorem box_x {w : World} {b : Nat} {x : I5} (h : Mem w b 31 (cellsX x)) : w.cell? ⟨b, 0, none⟩ = some (.int .i64 x.op) ∧ w.cell? ⟨b, 1, none⟩ = some (.int .i64 x.a) ∧ w.cell? ⟨b, 2, none⟩ = some (.int .i64 x.b) ∧ w.cell? ⟨b, 3, none⟩ = some (.int .i64 x.c) ∧ w.cell? ⟨b, 4, none⟩ = some (.int .i64 x.i) :=
  ⟨h.cell 0, h.cell 1, h.cell 2, h.cell 3, h.cell 4⟩
set_option maxRecDepth 100000 in
theorem a_rd (x : I5) (w : World) : Calls Tryd.prog 30 #[insX x] w fun e w' => e = .returned (.int .i64 (wRd x)) ∧ Below w.heap.size w w' := by
  have HB := Lib.hid (below_new w (.cells (cellsX x) 31))
  have HM := Lib.hid (Mem.new w 31 (cellsX x))
  go_enter Tryd.func30, Tryd.ntmps30
  go_wp2_with fail
  obtain ⟨w1, hw1⟩ : ∃ w1, w.alloc (.cells (cellsX x) 31) = w1 := ⟨_, rfl⟩
  rw [hw1] at HB HM ⊢
  obtain ⟨gb, hgb⟩ : ∃ gb, w.heap.size = gb := ⟨_, rfl⟩
  have hgl := HM.out.lt
  rw [hgb] at HM hgl ⊢
  obtain ⟨x0, x1, x2, x3, x4⟩ := box_x HM.out
  have hb2 := below_drewN HB.out 1
  have HB2 := Lib.hid hb2
  clear hw1 hb2
  have hA := a_oneOf x (w1.heap.size + 1) w1.heap.size 2 2 [10, 15] (((w1.alloc (.cells #[.int .i64 10, .int .i64 15] 3)).alloc (.cells #[.slice (some ⟨w1.heap.size, 0, none⟩) 2 2] 22)).drew) (by omega) rfl ((mem_new1 w1 _ _ _).drewN 1) (((Mem.new w1 _ _).alloc _).drewN 1)
  have hb5 := below_drewN (HB.out.trans ((below_new2 w1 (.cells #[.int .i64 10, .int .i64 15] 3) (.cells #[.slice (some ⟨w1.heap.size, 0, none⟩) 2 2] 22)).mono HB.out.size)) 1
  have HA := Lib.hid hA
  have HB5 := Lib.hid hb5
  clear hA hb5
  go_region_law (first
    | (go_simp; go_at_call 32; (with_reducible refine (a_ones _ _ _ _).mono ?_); rintro e w2 ⟨rfl, rfl⟩)
    | (go_simp; go_at_call 55; refine HA.out.mono ?_; rintro e w3 ⟨rfl, hb3⟩; have HB3 := Lib.hid hb3; clear hb3))
  all_goals
    go_wp2_with fail
    go_ret
    exact ⟨rfl, HB5.out.trans (HB3.out.mono HB5.out.size)⟩
set_option maxRecDepth 100000 in
theorem a_wr (x : I5) (hc : chkI x = 0) (w : World) : Calls Tryd.prog 31 #[insX x] w fun e w' => e = .returned (.int .i64 (wWr x)) ∧ Below w.heap.size w w' := by
  have HB := Lib.hid (below_new w (.cells (cellsX x) 31))
  have HM := Lib.hid (Mem.new w 31 (cellsX x))
  have hx := box_x HM.out
  have HX := Lib.hid hx
  obtain ⟨x0, _, _, _, x4⟩ := hx
  by_cases h14 : x.op = 14
  · obtain ⟨i0, i1⟩ := al_imm hc h14
    obtain ⟨k, hk⟩ : ∃ k : Nat, x.i = k := ⟨x.i.toNat, by omega⟩
    have hw : wWr x = 2 ^ k + 1 := by unfold wWr; rw [if_pos h14, hk, Int.toNat_natCast]
    have h14' : (x.op == 14) = true := beq_iff_eq.2 h14
    have HW := Lib.hid hw
    clear h14 hw
    rw [hk] at x4 i0 i1
    have hk3 : k = 0 ∨ k = 1 ∨ k = 2 ∨ k = 3 := by omega
    rcases hk3 with rfl | rfl | rfl | rfl
    all_goals
      go_enter Tryd.func31, Tryd.ntmps31
      go_wp2_with fail
      go_ret
      exact ⟨by rw [HW.out]; rfl, below_new _ _⟩
  · have h14' : (x.op == 14) = false := beq_eq_false_iff_ne.2 h14
    have hw : wWr x = oneOf [11, 15] x := by unfold wWr; rw [if_neg h14]
    rw [hw]
    clear h14 hw x4
    go_enter Tryd.func31, Tryd.ntmps31
    go_wp2_with fail
    obtain ⟨w1, hw1⟩ : ∃ w1, w.alloc (.cells (cellsX x) 31) = w1 := ⟨_, rfl⟩
    rw [hw1] at HB HM ⊢
    obtain ⟨gb, hgb⟩ : ∃ gb, w.heap.size = gb := ⟨_, rfl⟩
    have hgl := HM.out.lt
    rw [hgb] at HM hgl ⊢
    have hb2 := below_drewN HB.out 1
    have HB2 := Lib.hid hb2
    clear hw1 hb2 x0
    obtain ⟨x0, x1, x2, x3, x4⟩ := box_x HM.out
    have hA := a_oneOf x (w1.heap.size + 1) w1.heap.size 2 2 [11, 15] (((w1.alloc (.cells #[.int .i64 11, .int .i64 15] 3)).alloc (.cells #[.slice (some ⟨w1.heap.size, 0, none⟩) 2 2] 22)).drew) (by omega) rfl ((mem_new1 w1 _ _ _).drewN 1) (((Mem.new w1 _ _).alloc _).drewN 1)
    have hb5 := below_drewN (HB.out.trans ((below_new2 w1 (.cells #[.int .i64 11, .int .i64 15] 3) (.cells #[.slice (some ⟨w1.heap.size, 0, none⟩) 2 2] 22)).mono HB.out.size)) 1
    have HA := Lib.hid hA
    have HB5 := Lib.hid hb5
    clear hA hb5
    go_region_law (first
      | (go_simp; go_at_call 32; (with_reducible refine (a_ones _ _ _ _).mono ?_); rintro e w2 ⟨rfl, rfl⟩)
      | (go_simp; go_at_call 55; refine HA.out.mono ?_; rintro e w3 ⟨rfl, hb3⟩; have HB3 := Lib.hid hb3; clear hb3))
    all_goals
      go_wp2_with fail
      go_ret
      exact ⟨rfl, HB5.out.trans (HB3.out.mono HB5.out.size)⟩
theorem heavy_one (A : Option Addr) (m c : Nat) (ps : List I5) (lo : Nat) (hi : Int) (w : World) (hE : Env w) (hm : m ≤ c) (hmx : c ≤ maxLen) (hR0 : RowI w A m ps) (hv : Valid ps) (hlo : lo ≤ m) (hlh : (lo : Int) ≤ hi + 1) (hhi : hi < m) :
    Calls Tryd.prog 27 #[.slice A m c, .int .i64 lo, .int .i64 hi, .func (.func 28) #[] #[]] w fun e W' => (∃ R, PgV.Rest ps wOne lo hi R ∧ BdR R ∧ e = .returned (.int .i64 (R lo))) ∧ Below w.heap.size w W' :=
  callsIn_wide.1 (heavy0_in 6 (by omega) A m c ps lo hi wOne 28 w hE hm hmx hR0 hv hlo hlh hhi (fun x hx => by unfold wOne; omega) (enters_of Tryd.func28 (by kernel_rfl) rfl) (fun x W hx hb => callsIn_wide.2 (a_one x W)))
theorem heavy_rd (A : Option Addr) (m c : Nat) (ps : List I5) (lo : Nat) (hi : Int) (w : World) (hE : Env w) (hm : m ≤ c) (hmx : c ≤ maxLen) (hR0 : RowI w A m ps) (hv : Valid ps) (hlo : lo ≤ m) (hlh : (lo : Int) ≤ hi + 1) (hhi : hi < m) :
    Calls Tryd.prog 27 #[.slice A m c, .int .i64 lo, .int .i64 hi, .func (.func 30) #[] #[]] w fun e W' => (∃ R, PgV.Rest ps wRd lo hi R ∧ BdR R ∧ e = .returned (.int .i64 (R lo))) ∧ Below w.heap.size w W' :=
  callsIn_wide.1 (heavy0_in 6 (by omega) A m c ps lo hi wRd 30 w hE hm hmx hR0 hv hlo hlh hhi (fun x hx => by have := oneOf_in [10, 15] x; unfold wRd; omega) (enters_of Tryd.func30 (by kernel_rfl) rfl) (fun x W hx hb => callsIn_wide.2 (a_rd x W)))
theorem chk_mem {ps : List I5} (h : Valid ps) {x : I5} (hx : x ∈ ps) : chkI x = 0 := by
  obtain ⟨k, hk, rfl⟩ := List.mem_iff_getElem.1 hx
  exact h.chk (List.getElem?_eq_getElem hk)
theorem heavy_wr (A : Option Addr) (m c : Nat) (ps : List I5) (lo : Nat) (hi : Int) (w : World) (hE : Env w) (hm : m ≤ c) (hmx : c ≤ maxLen) (hR0 : RowI w A m ps) (hv : Valid ps) (hlo : lo ≤ m) (hlh : (lo : Int) ≤ hi + 1) (hhi : hi < m) :
    Calls Tryd.prog 27 #[.slice A m c, .int .i64 lo, .int .i64 hi, .func (.func 31) #[] #[]] w fun e W' => (∃ R, PgV.Rest ps wWr lo hi R ∧ BdR R ∧ e = .returned (.int .i64 (R lo))) ∧ Below w.heap.size w W' :=
  callsIn_wide.1 (heavy0_in 6 (by omega) A m c ps lo hi wWr 31 w hE hm hmx hR0 hv hlo hlh hhi (fun x hx => by have := wWr_in (chk_mem hv hx); omega) (enters_of Tryd.func31 (by kernel_rfl) rfl) (fun x W hx hb => callsIn_wide.2 (a_wr x (chk_mem hv hx) W)))
/-- At a closure of ones for one operation. -/
theorem heavy_op (z : Int) (b g : Nat) (A : Option Addr) (m c : Nat) (ps : List I5) (lo : Nat) (hi : Int) (w : World) (hE : Env w) (hm : m ≤ c) (hmx : c ≤ maxLen) (hR0 : RowI w A m ps) (hv : Valid ps) (hlo : lo ≤ m) (hlh : (lo : Int) ≤ hi + 1) (hhi : hi < m)
    (hb : Mem w b 22 #[.slice (some ⟨g, 0, none⟩) 1 1]) (hg : Mem w g 3 #[.int .i64 z]) :
    Calls Tryd.prog 27 #[.slice A m c, .int .i64 lo, .int .i64 hi, .func (.func 55) #[] #[.pointer (some ⟨b, 0, none⟩)]] w fun e W' => (∃ R, PgV.Rest ps (oneOf [z]) lo hi R ∧ BdR R ∧ e = .returned (.int .i64 (R lo))) ∧ Below w.heap.size w W' :=
  callsIn_wide.1 (heavy1_in 6 (by omega) A m c ps lo hi (oneOf [z]) 55 b w hE hm hmx hR0 hv hlo hlh hhi (fun x hx => by have := oneOf_in [z] x; omega) (enters_of Tryd.func55 (by kernel_rfl) rfl) (fun x W hx hB => callsIn_wide.2 (a_oneOf x b g 1 1 [z] W (by omega) rfl (hb.below hB hb.lt) (hg.below hB hg.lt))))
/-- **Longest**, of a valid program. -/
theorem a_longest (A : Option Addr) (m c : Nat) (ps : List I5) (w : World) (hE : Env w) (hm : m ≤ c) (hmx : c ≤ maxLen) (hR0 : RowI w A m ps) (hv : Valid ps) :
    Calls Tryd.prog 11 #[.slice A m c] w fun e W' => (∃ R, PgV.Rest ps wOne 0 ((m : Int) - 1) R ∧ BdR R ∧ e = .returned (.int .i64 (R 0))) ∧ Below w.heap.size w W' := by
  have hlen := hR0.1
  have h64 := hv.len
  have hm64 : m ≤ 64 := by omega
  have HV := Lib.hid (a_valid A m c ps w hE hm hmx hR0 true (decide_eq_true (refChk_zero hv)))
  have HE := Lib.hid hE
  have HR := Lib.hid hR0
  have HVV := Lib.hid hv
  have HM := Lib.hid hm
  have HMX := Lib.hid hmx
  clear hE hR0 hv hm hmx hlen h64
  go_enter Tryd.func11, Tryd.ntmps11
  go_wp2_with (first
    | (go_at_call 26; refine HV.out.mono ?_; rintro e w1 ⟨rfl, hb1⟩; have HB1 := Lib.hid hb1; clear hb1)
    | (go_at_call 27; refine (heavy_one A m c ps 0 ((m : Int) - 1) _ (HE.out.below HB1.out) HM.out HMX.out (HR.out.below HB1.out) HVV.out (by omega) (by omega) (by omega)).mono ?_; rintro e w2 ⟨⟨R, hr, hbd, rfl⟩, hb2⟩; have HR2 := Lib.hid hr; have HBD := Lib.hid hbd; have HB2 := Lib.hid (HB1.out.trans (hb2.mono HB1.out.size)); clear hr hbd hb2))
  go_ret
  exact ⟨⟨R, HR2.out, HBD.out, rfl⟩, HB2.out⟩
/-- What heaviest gives. -/
def HvIs (ps : List I5) (wt : I5 → Int) (lo : Nat) (hi : Int) (w : World) (e : Ending) (W' : World) : Prop := (∃ R, PgV.Rest ps wt lo hi R ∧ BdR R ∧ e = .returned (.int .i64 (R lo))) ∧ Below w.heap.size w W'
theorem a_most (V : Value) (wt : I5 → Int) (ps : List I5) (Bp Bk Bc : Nat) (A : Option Addr) (m c lo : Nat) (hi : Int) (w : World) (h0 : Mem w Bp 24 #[.slice A m c]) (h1 : Mem w Bk 3 #[.int .i64 lo]) (h2 : Mem w Bc 3 #[.int .i64 hi])
    (H : Calls Tryd.prog 27 #[.slice A m c, .int .i64 lo, .int .i64 hi, V] w (HvIs ps wt lo hi w)) :
    Calls Tryd.prog 29 #[V, .pointer (some ⟨Bp, 0, none⟩), .pointer (some ⟨Bk, 0, none⟩), .pointer (some ⟨Bc, 0, none⟩)] w (HvIs ps wt lo hi w) := by
  have c0 : w.cell? ⟨Bp, 0, none⟩ = some (.slice A m c) := h0.cell 0
  have c1 : w.cell? ⟨Bk, 0, none⟩ = some (.int .i64 lo) := h1.cell 0
  have c2 : w.cell? ⟨Bc, 0, none⟩ = some (.int .i64 hi) := h2.cell 0
  have HH := Lib.hid H
  clear h0 h1 h2 H
  go_enter Tryd.func29, Tryd.ntmps29
  go_wp2_with (go_at_call 27; refine HH.out.mono ?_; rintro e w2 ⟨⟨R, hr, hbd, rfl⟩, hb2⟩; have HR2 := Lib.hid hr; have HBD := Lib.hid hbd; have HB2 := Lib.hid hb2; clear hr hbd hb2)
  go_ret
  exact ⟨⟨R, HR2.out, HBD.out, rfl⟩, HB2.out⟩
theorem a_ones1 (z : Int) (w1 : World) : Calls Tryd.prog 32 #[.slice (some ⟨w1.heap.size, 0, none⟩) 1 1] (w1.alloc (.cells #[.int .i64 z] 3)) fun e w' => ∃ b, e = .returned (.func (.func 55) #[] #[.pointer (some ⟨b, 0, none⟩)]) ∧ Mem w' b 22 #[.slice (some ⟨w1.heap.size, 0, none⟩) 1 1] ∧ Mem w' w1.heap.size 3 #[.int .i64 z] ∧ Below w1.heap.size w1 w' :=
  (a_ones _ 1 1 _).mono fun e w' ⟨h1, h2⟩ => by
    subst h1 h2
    exact ⟨_, rfl, Mem.new _ _ _, (Mem.new w1 _ _).alloc _, below_new2 _ _ _⟩
/-- What Needs gives at a begin. -/
def NdIs (ps : List I5) (k : Nat) (cm : Int) (e : Ending) : Prop := ∃ R1 R2 R3 R4, PgV.Rest ps wRd k cm R1 ∧ PgV.Rest ps wWr k cm R2 ∧ PgV.Rest ps wAl k cm R3 ∧ PgV.Rest ps wFr k cm R4 ∧ e = .returned (.tuple #[.int .i64 (R1 k), .int .i64 (R2 k), .int .i64 (R3 k), .int .i64 (R4 k)])
set_option maxHeartbeats 4000000 in
set_option maxRecDepth 100000 in
theorem a_needs_none (A : Option Addr) (m c : Nat) (ps : List I5) (k : Int) (w : World) (hE : Env w) (hm : m ≤ c) (hmx : c ≤ maxLen) (hR0 : RowI w A m ps) (hk : commitV ps k = -1) :
    Calls Tryd.prog 14 #[.slice A m c, .int .i64 k] w fun e W' => e = .returned (.tuple #[.int .i64 0, .int .i64 0, .int .i64 0, .int .i64 0]) ∧ Below w.heap.size w W' := by
  have hb0 := below_new2 w (.cells #[.slice A m c] 24) (.cells #[.int .i64 k] 3)
  have hc := a_commit A m c ps k _ ((hE.alloc (.cells #[.slice A m c] 24)).alloc (.cells #[.int .i64 k] 3)) hm hmx (hR0.below hb0)
  rw [hk] at hc
  have HC := Lib.hid hc
  have HB0 := Lib.hid hb0
  clear hE hR0 hm hmx hc hb0
  go_enter Tryd.func14, Tryd.ntmps14
  go_wp2_with (go_at_call 10; refine HC.out.mono ?_; rintro e w3 ⟨rfl, hb3⟩; have HB3 := Lib.hid (HB0.out.trans (hb3.mono HB0.out.size)); clear hb3)
  refine bodyPost_ret (v := .tuple #[.int .i64 0, .int .i64 0, .int .i64 0, .int .i64 0]) (by simp [results, Tryd.results14, go_sem]) rfl ⟨rfl, ?_⟩
  exact HB3.out.alloc HB3.out.size _
set_option maxHeartbeats 4000000 in
set_option maxRecDepth 100000 in
theorem a_needs (A : Option Addr) (m c : Nat) (ps : List I5) (k : Nat) (cm : Int) (w : World) (hE : Env w) (hm : m ≤ c) (hmx : c ≤ maxLen) (hR0 : RowI w A m ps) (hv : Valid ps) (hk : commitV ps k = cm) (hk1 : (k : Int) < cm) (hk2 : cm < m) :
    Calls Tryd.prog 14 #[.slice A m c, .int .i64 k] w fun e W' => NdIs ps k cm e ∧ Below w.heap.size w W' := by
  have hb0 := below_new2 w (.cells #[.slice A m c] 24) (.cells #[.int .i64 (k : Int)] 3)
  have hc := a_commit A m c ps k _ ((hE.alloc (.cells #[.slice A m c] 24)).alloc (.cells #[.int .i64 (k : Int)] 3)) hm hmx (hR0.below hb0)
  rw [hk] at hc
  have HC := Lib.hid hc
  have HB0 := Lib.hid hb0
  have HE := Lib.hid hE
  have HR := Lib.hid hR0
  have HV := Lib.hid hv
  have HM := Lib.hid hm
  have HMX := Lib.hid hmx
  have HP := Lib.hid ((Mem.new w 24 #[.slice A m c]).alloc (.cells #[.int .i64 (k : Int)] 3))
  have HK := Lib.hid (mem_new1 w (.cells #[.slice A m c] 24) 3 #[.int .i64 (k : Int)])
  have hkm : k ≤ m := by omega
  have hkc : (k : Int) ≤ cm + 1 := by omega
  have hcm0 : ¬ cm < 0 := by omega
  have heavy : ∀ (V : Value) (wt : I5 → Int) (W : World), Below w.heap.size w W → (∀ (W' : World), Env W' → RowI W' A m ps → W' = W → Calls Tryd.prog 27 #[.slice A m c, .int .i64 (k : Int), .int .i64 cm, V] W' (HvIs ps wt k cm W')) → Calls Tryd.prog 27 #[.slice A m c, .int .i64 (k : Int), .int .i64 cm, V] W (HvIs ps wt k cm W) :=
    fun V wt W hb h => h W (hE.below hb) (hR0.below hb) rfl
  have HH := Lib.hid heavy
  clear hE hR0 hv hm hmx hc hb0 hk heavy
  go_enter Tryd.func14, Tryd.ntmps14
  go_upto_region 2 with (go_at_call 10; refine HC.out.mono ?_; rintro e w3 ⟨rfl, hb3⟩; have HB3 := Lib.hid (HB0.out.trans (hb3.mono HB0.out.size)); have HP3 := Lib.hid (HP.out.below hb3 HP.out.lt); have HK3 := Lib.hid (HK.out.below hb3 HK.out.lt); clear hb3)
  have HB4 := Lib.hid (HB3.out.alloc HB3.out.size (.cells #[.int .i64 cm] 3))
  have HP4 := Lib.hid (HP3.out.alloc (.cells #[.int .i64 cm] 3))
  have HK4 := Lib.hid (HK3.out.alloc (.cells #[.int .i64 cm] 3))
  have HQ4 := Lib.hid (Mem.new w3 3 #[.int .i64 cm])
  have c2 : (w3.alloc (.cells #[.int .i64 cm] 3)).cell? ⟨w3.heap.size, 0, none⟩ = some (.int .i64 cm) := HQ4.out.cell 0
  obtain ⟨w4, hw4⟩ : ∃ w4, w3.alloc (.cells #[.int .i64 cm] 3) = w4 := ⟨_, rfl⟩
  obtain ⟨gc, hgc⟩ : ∃ gc, w3.heap.size = gc := ⟨_, rfl⟩
  rw [hw4] at HB4 HP4 HK4 HQ4 c2 ⊢
  rw [hgc] at HQ4 c2 ⊢
  clear hw4 hgc
  go_wp2_with (first
    | (go_at_call 29; refine (a_most (.func (.func 30) #[] #[]) wRd ps _ _ _ A m c k cm w4 HP4.out HK4.out HQ4.out (HH.out _ _ _ HB4.out fun W' hE' hR' hW' => heavy_rd A m c ps k cm W' hE' HM.out HMX.out hR' HV.out hkm hkc hk2)).mono ?_; rintro e w5 ⟨⟨R1, hr, _, rfl⟩, hb⟩; have HR1 := Lib.hid hr; have HB5 := Lib.hid (HB4.out.trans (hb.mono HB4.out.size)); have HP5 := Lib.hid (HP4.out.below hb HP4.out.lt); have HK5 := Lib.hid (HK4.out.below hb HK4.out.lt); have HQ5 := Lib.hid (HQ4.out.below hb HQ4.out.lt); clear hr hb)
    | (go_at_call 29; refine (a_most (.func (.func 31) #[] #[]) wWr ps _ _ _ A m c k cm w5 HP5.out HK5.out HQ5.out (HH.out _ _ _ HB5.out fun W' hE' hR' hW' => heavy_wr A m c ps k cm W' hE' HM.out HMX.out hR' HV.out hkm hkc hk2)).mono ?_; rintro e w6 ⟨⟨R2, hr, _, rfl⟩, hb⟩; have HR2 := Lib.hid hr; have HB6 := Lib.hid (HB5.out.trans (hb.mono HB5.out.size)); have HP6 := Lib.hid (HP5.out.below hb HP5.out.lt); have HK6 := Lib.hid (HK5.out.below hb HK5.out.lt); have HQ6 := Lib.hid (HQ5.out.below hb HQ5.out.lt); clear hr hb)
    | (go_at_call 32; refine (a_ones1 14 w6).mono ?_; rintro e w7 ⟨b7, rfl, hm7, hr7, hb⟩; have HM7 := Lib.hid hm7; have HR7 := Lib.hid hr7; have HB7 := Lib.hid (HB6.out.trans (hb.mono HB6.out.size)); have HP7 := Lib.hid (HP6.out.below hb HP6.out.lt); have HK7 := Lib.hid (HK6.out.below hb HK6.out.lt); have HQ7 := Lib.hid (HQ6.out.below hb HQ6.out.lt); clear hm7 hr7 hb)
    | (go_at_call 29; refine (a_most (.func (.func 55) #[] #[.pointer (some ⟨b7, 0, none⟩)]) wAl ps _ _ _ A m c k cm w7 HP7.out HK7.out HQ7.out (HH.out _ _ _ HB7.out fun W' hE' hR' hW' => heavy_op 14 b7 w6.heap.size A m c ps k cm W' hE' HM.out HMX.out hR' HV.out hkm hkc hk2 (hW' ▸ HM7.out) (hW' ▸ HR7.out))).mono ?_; rintro e w8 ⟨⟨R3, hr, _, rfl⟩, hb⟩; have HR3 := Lib.hid hr; have HB8 := Lib.hid (HB7.out.trans (hb.mono HB7.out.size)); have HP8 := Lib.hid (HP7.out.below hb HP7.out.lt); have HK8 := Lib.hid (HK7.out.below hb HK7.out.lt); have HQ8 := Lib.hid (HQ7.out.below hb HQ7.out.lt); clear hr hb)
    | (go_at_call 32; refine (a_ones1 15 w8).mono ?_; rintro e w9 ⟨b9, rfl, hm9, hr9, hb⟩; have HM9 := Lib.hid hm9; have HR9 := Lib.hid hr9; have HB9 := Lib.hid (HB8.out.trans (hb.mono HB8.out.size)); have HP9 := Lib.hid (HP8.out.below hb HP8.out.lt); have HK9 := Lib.hid (HK8.out.below hb HK8.out.lt); have HQ9 := Lib.hid (HQ8.out.below hb HQ8.out.lt); clear hm9 hr9 hb)
    | (go_at_call 29; refine (a_most (.func (.func 55) #[] #[.pointer (some ⟨b9, 0, none⟩)]) wFr ps _ _ _ A m c k cm w9 HP9.out HK9.out HQ9.out (HH.out _ _ _ HB9.out fun W' hE' hR' hW' => heavy_op 15 b9 w8.heap.size A m c ps k cm W' hE' HM.out HMX.out hR' HV.out hkm hkc hk2 (hW' ▸ HM9.out) (hW' ▸ HR9.out))).mono ?_; rintro e w10 ⟨⟨R4, hr, _, rfl⟩, hb⟩; have HR4 := Lib.hid hr; have HB10 := Lib.hid (HB9.out.trans (hb.mono HB9.out.size)); clear hr hb))
  refine bodyPost_ret (v := .tuple #[.int .i64 (R1 k), .int .i64 (R2 k), .int .i64 (R3 k), .int .i64 (R4 k)]) (by simp [results, Tryd.results14, go_sem]) rfl ?_
  exact ⟨⟨R1, R2, R3, R4, HR1.out, HR2.out, HR3.out, HR4.out, rfl⟩, HB10.out⟩
end Go.Proofs.YthnhmclnfgkppaaDoor.PgN
