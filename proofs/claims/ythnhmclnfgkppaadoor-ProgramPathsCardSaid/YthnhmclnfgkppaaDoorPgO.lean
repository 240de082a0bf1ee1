/-
  Contracts of layer 6's statements: the chapter's example, awake.
-/
import Derived.Test.YthnhmclnfgkppaaDoorPgN
import Derived.Deep.DeepCutAuto
namespace Go.Proofs.YthnhmclnfgkppaaDoor.PgO
open Go.ChangeShapes Go.WideShapes Go.ChangeAt Go.RowKit Go.Shelf
open PlainT IsaE IsaS BlkW IsaA IsaB IsaF PrgS PrgC PgS PgA PgB PgT PgU PgC PgD PgE PgF PgV PgW PgX PgH PgN
set_option linter.unusedVariables false
set_option maxHeartbeats 2000000

def exP : List I5 := [⟨7, 0, 0, 0, 2⟩, ⟨10, 0, 1, 0, 0⟩, ⟨5, 0, 0, 0, 1⟩, ⟨9, 0, 0, 0, 0⟩, ⟨11, 1, 0, 0, 0⟩, ⟨8, 0, 0, 0, 0⟩]
def exQ : List I5 := [⟨0, 0, 0, 0, 0⟩, ⟨8, 0, 0, 0, 0⟩]
theorem ex_valid : Valid exP := valid_of (by decide +kernel)
theorem ex_rest {wt : I5 → Int} {R : Nat → Int} (h : PgV.Rest exP wt 0 5 R) (hw : ∀ x ∈ exP, 0 ≤ wt x) :
    R 0 = wt ⟨7, 0, 0, 0, 2⟩ + wt ⟨10, 0, 1, 0, 0⟩ + wt ⟨5, 0, 0, 0, 1⟩ + max (wt ⟨9, 0, 0, 0, 0⟩) (wt ⟨11, 1, 0, 0, 0⟩ + wt ⟨8, 0, 0, 0, 0⟩) := by
  have n0 := hw ⟨7, 0, 0, 0, 2⟩ (by simp [exP])
  have n1 := hw ⟨10, 0, 1, 0, 0⟩ (by simp [exP])
  have n2 := hw ⟨5, 0, 0, 0, 1⟩ (by simp [exP])
  have n3 := hw ⟨9, 0, 0, 0, 0⟩ (by simp [exP])
  have n4 := hw ⟨11, 1, 0, 0, 0⟩ (by simp [exP])
  have n5 := hw ⟨8, 0, 0, 0, 0⟩ (by simp [exP])
  have e6 := h.out 6 (by omega)
  have e5 := h.eq 5 ⟨8, 0, 0, 0, 0⟩ (by omega) (by omega) rfl
  have e4 := h.eq 4 ⟨11, 1, 0, 0, 0⟩ (by omega) (by omega) rfl
  have e3 := h.eq 3 ⟨9, 0, 0, 0, 0⟩ (by omega) (by omega) rfl
  have e2 := h.eq 2 ⟨5, 0, 0, 0, 1⟩ (by omega) (by omega) rfl
  have e1 := h.eq 1 ⟨10, 0, 1, 0, 0⟩ (by omega) (by omega) rfl
  have e0 := h.eq 0 ⟨7, 0, 0, 0, 2⟩ (by omega) (by omega) rfl
  rw [show folV exP ((5 : Nat) : Int) ⟨8, 0, 0, 0, 0⟩ = [6] by decide +kernel, show mx R [6] 0 = max 0 (R 6) from rfl] at e5
  rw [show folV exP ((4 : Nat) : Int) ⟨11, 1, 0, 0, 0⟩ = [5] by decide +kernel, show mx R [5] 0 = max 0 (R 5) from rfl] at e4
  rw [show folV exP ((3 : Nat) : Int) ⟨9, 0, 0, 0, 0⟩ = [6] by decide +kernel, show mx R [6] 0 = max 0 (R 6) from rfl] at e3
  rw [show folV exP ((2 : Nat) : Int) ⟨5, 0, 0, 0, 1⟩ = [3, 4] by decide +kernel, show mx R [3, 4] 0 = max (max 0 (R 3)) (R 4) from rfl] at e2
  rw [show folV exP ((1 : Nat) : Int) ⟨10, 0, 1, 0, 0⟩ = [2] by decide +kernel, show mx R [2] 0 = max 0 (R 2) from rfl] at e1
  rw [show folV exP ((0 : Nat) : Int) ⟨7, 0, 0, 0, 2⟩ = [1] by decide +kernel, show mx R [1] 0 = max 0 (R 1) from rfl] at e0
  omega
theorem ex_long {R : Nat → Int} (h : PgV.Rest exP wOne 0 5 R) : R 0 = 5 := by
  rw [ex_rest h (fun x _ => by unfold wOne; omega)]
  decide
theorem ex_rd {R : Nat → Int} (h : PgV.Rest exP wRd 0 5 R) : R 0 = 1 := by
  rw [ex_rest h (fun x _ => (oneOf_in _ x).1)]
  decide
theorem ex_wr {R : Nat → Int} (h : PgV.Rest exP wWr 0 5 R) : R 0 = 1 := by
  rw [ex_rest h (fun x hx => (wWr_in (chk_mem ex_valid hx)).1)]
  decide
theorem ex_al {R : Nat → Int} (h : PgV.Rest exP wAl 0 5 R) : R 0 = 0 := by
  rw [ex_rest h (fun x _ => (oneOf_in _ x).1)]
  decide
theorem ex_fr {R : Nat → Int} (h : PgV.Rest exP wFr 0 5 R) : R 0 = 0 := by
  rw [ex_rest h (fun x _ => (oneOf_in _ x).1)]
  decide
theorem row_new {w : World} {ps : List I5} {cs : Array Value} {n : Nat} (hn : ps.length = n) (hc : ∀ k (h : k < ps.length), cs[k * 5]? = some (.int .i64 ps[k].op) ∧ cs[k * 5 + 1]? = some (.int .i64 ps[k].a) ∧ cs[k * 5 + 2]? = some (.int .i64 ps[k].b) ∧ cs[k * 5 + 3]? = some (.int .i64 ps[k].c) ∧ cs[k * 5 + 4]? = some (.int .i64 ps[k].i)) :
    RowI (w.alloc (.cells cs 31)) (some ⟨w.heap.size, 0, none⟩) n ps := by
  have hm := Mem.new w 31 cs
  refine ⟨hn, fun _ => ⟨w.heap.size, 0, rfl, hm.lt, fun k hk => ?_⟩⟩
  obtain ⟨h0, h1, h2, h3, h4⟩ := hc k hk
  simp only [Nat.zero_add]
  exact ⟨(hm.cell _).trans h0, (hm.cell _).trans h1, (hm.cell _).trans h2, (hm.cell _).trans h3, (hm.cell _).trans h4⟩
theorem ex_cells : ∀ k (h : k < exP.length), (#[.int .i64 7, .int .i64 0, .int .i64 0, .int .i64 0, .int .i64 2, .int .i64 10, .int .i64 0, .int .i64 1, .int .i64 0, .int .i64 0, .int .i64 5, .int .i64 0, .int .i64 0, .int .i64 0, .int .i64 1, .int .i64 9, .int .i64 0, .int .i64 0, .int .i64 0, .int .i64 0, .int .i64 11, .int .i64 1, .int .i64 0, .int .i64 0, .int .i64 0, .int .i64 8, .int .i64 0, .int .i64 0, .int .i64 0, .int .i64 0] : Array Value)[k * 5]? = some (.int .i64 exP[k].op) ∧ (#[.int .i64 7, .int .i64 0, .int .i64 0, .int .i64 0, .int .i64 2, .int .i64 10, .int .i64 0, .int .i64 1, .int .i64 0, .int .i64 0, .int .i64 5, .int .i64 0, .int .i64 0, .int .i64 0, .int .i64 1, .int .i64 9, .int .i64 0, .int .i64 0, .int .i64 0, .int .i64 0, .int .i64 11, .int .i64 1, .int .i64 0, .int .i64 0, .int .i64 0, .int .i64 8, .int .i64 0, .int .i64 0, .int .i64 0, .int .i64 0] : Array Value)[k * 5 + 1]? = some (.int .i64 exP[k].a) ∧ (#[.int .i64 7, .int .i64 0, .int .i64 0, .int .i64 0, .int .i64 2, .int .i64 10, .int .i64 0, .int .i64 1, .int .i64 0, .int .i64 0, .int .i64 5, .int .i64 0, .int .i64 0, .int .i64 0, .int .i64 1, .int .i64 9, .int .i64 0, .int .i64 0, .int .i64 0, .int .i64 0, .int .i64 11, .int .i64 1, .int .i64 0, .int .i64 0, .int .i64 0, .int .i64 8, .int .i64 0, .int .i64 0, .int .i64 0, .int .i64 0] : Array Value)[k * 5 + 2]? = some (.int .i64 exP[k].b) ∧ (#[.int .i64 7, .int .i64 0, .int .i64 0, .int .i64 0, .int .i64 2, .int .i64 10, .int .i64 0, .int .i64 1, .int .i64 0, .int .i64 0, .int .i64 5, .int .i64 0, .int .i64 0, .int .i64 0, .int .i64 1, .int .i64 9, .int .i64 0, .int .i64 0, .int .i64 0, .int .i64 0, .int .i64 11, .int .i64 1, .int .i64 0, .int .i64 0, .int .i64 0, .int .i64 8, .int .i64 0, .int .i64 0, .int .i64 0, .int .i64 0] : Array Value)[k * 5 + 3]? = some (.int .i64 exP[k].c) ∧ (#[.int .i64 7, .int .i64 0, .int .i64 0, .int .i64 0, .int .i64 2, .int .i64 10, .int .i64 0, .int .i64 1, .int .i64 0, .int .i64 0, .int .i64 5, .int .i64 0, .int .i64 0, .int .i64 0, .int .i64 1, .int .i64 9, .int .i64 0, .int .i64 0, .int .i64 0, .int .i64 0, .int .i64 11, .int .i64 1, .int .i64 0, .int .i64 0, .int .i64 0, .int .i64 8, .int .i64 0, .int .i64 0, .int .i64 0, .int .i64 0] : Array Value)[k * 5 + 4]? = some (.int .i64 exP[k].i) := by
  intro k hk
  have h6 : k < 6 := hk
  have h : k = 0 ∨ k = 1 ∨ k = 2 ∨ k = 3 ∨ k = 4 ∨ k = 5 := by omega
  rcases h with rfl | rfl | rfl | rfl | rfl | rfl <;> exact ⟨rfl, rfl, rfl, rfl, rfl⟩
theorem exq_cells : ∀ k (h : k < exQ.length), (#[.int .i64 0, .int .i64 0, .int .i64 0, .int .i64 0, .int .i64 0, .int .i64 8, .int .i64 0, .int .i64 0, .int .i64 0, .int .i64 0] : Array Value)[k * 5]? = some (.int .i64 exQ[k].op) ∧ (#[.int .i64 0, .int .i64 0, .int .i64 0, .int .i64 0, .int .i64 0, .int .i64 8, .int .i64 0, .int .i64 0, .int .i64 0, .int .i64 0] : Array Value)[k * 5 + 1]? = some (.int .i64 exQ[k].a) ∧ (#[.int .i64 0, .int .i64 0, .int .i64 0, .int .i64 0, .int .i64 0, .int .i64 8, .int .i64 0, .int .i64 0, .int .i64 0, .int .i64 0] : Array Value)[k * 5 + 2]? = some (.int .i64 exQ[k].b) ∧ (#[.int .i64 0, .int .i64 0, .int .i64 0, .int .i64 0, .int .i64 0, .int .i64 8, .int .i64 0, .int .i64 0, .int .i64 0, .int .i64 0] : Array Value)[k * 5 + 3]? = some (.int .i64 exQ[k].c) ∧ (#[.int .i64 0, .int .i64 0, .int .i64 0, .int .i64 0, .int .i64 0, .int .i64 8, .int .i64 0, .int .i64 0, .int .i64 0, .int .i64 0] : Array Value)[k * 5 + 4]? = some (.int .i64 exQ[k].i) := by
  intro k hk
  have h6 : k < 2 := hk
  have h : k = 0 ∨ k = 1 := by omega
  rcases h with rfl | rfl <;> exact ⟨rfl, rfl, rfl, rfl, rfl⟩
theorem l_example (w : World) : Calls Tryd.prog 21 #[] w fun e w' => ∃ g, e = .returned (.slice (some ⟨g, 0, none⟩) 6 6) ∧ RowI w' (some ⟨g, 0, none⟩) 6 exP ∧ Below w.heap.size w w' := by
  go_enter Tryd.func21, Tryd.ntmps21
  go_wp2
  go_ret
  exact ⟨_, rfl, row_new rfl ex_cells, below_new _ _⟩
set_option maxHeartbeats 4000000 in
set_option maxRecDepth 100000 in
theorem l_awake (w : World) (hE : Env w) : Calls Tryd.prog 7 #[] w fun e w' => e = .returned (.bool true) ∧ Below w.heap.size w w' := by
  have HE := Lib.hid hE
  have HQ : Hid (∀ w1 : World, RowI (w1.alloc (.cells #[.int .i64 0, .int .i64 0, .int .i64 0, .int .i64 0, .int .i64 0, .int .i64 8, .int .i64 0, .int .i64 0, .int .i64 0, .int .i64 0] 31)) (some ⟨w1.heap.size, 0, none⟩) 2 exQ) := Lib.hid fun w1 => row_new rfl exq_cells
  have chkP : ∀ (g : Nat) (W : World), Env W → RowI W (some ⟨g, 0, none⟩) 6 exP → Calls Tryd.prog 9 #[.slice (some ⟨g, 0, none⟩) 6 6] W fun e W' => e = .returned (.tuple #[.int .i64 0, .int .i64 0]) ∧ Below W.heap.size W W' := fun g W h h2 => by
    have := a_check _ 6 6 exP W h (Nat.le_refl _) (by unfold maxLen; omega) h2
    rw [show refChk exP = (0, 0) by decide +kernel] at this
    exact this
  have chkQ : ∀ (g : Nat) (W : World), Env W → RowI W (some ⟨g, 0, none⟩) 2 exQ → Calls Tryd.prog 9 #[.slice (some ⟨g, 0, none⟩) 2 2] W fun e W' => e = .returned (.tuple #[.int .i64 1, .int .i64 40]) ∧ Below W.heap.size W W' := fun g W h h2 => by
    have := a_check _ 2 2 exQ W h (Nat.le_refl _) (by unfold maxLen; omega) h2
    rw [show refChk exQ = (1, 40) by decide +kernel] at this
    exact this
  have ndP : ∀ (g : Nat) (W : World), Env W → RowI W (some ⟨g, 0, none⟩) 6 exP → Calls Tryd.prog 14 #[.slice (some ⟨g, 0, none⟩) 6 6, .int .i64 0] W fun e W' => e = .returned (.tuple #[.int .i64 1, .int .i64 1, .int .i64 0, .int .i64 0]) ∧ Below W.heap.size W W' := fun g W h h2 =>
    (a_needs _ 6 6 exP 0 5 W h (Nat.le_refl _) (by unfold maxLen; omega) h2 ex_valid (by decide +kernel) (by omega) (by omega)).mono fun e W' ⟨⟨R1, R2, R3, R4, r1, r2, r3, r4, he⟩, hb⟩ => ⟨by
      have e1 := ex_rd r1
      have e2 := ex_wr r2
      have e3 := ex_al r3
      have e4 := ex_fr r4
      rw [he, e1, e2, e3, e4], hb⟩
  have lgP : ∀ (g : Nat) (W : World), Env W → RowI W (some ⟨g, 0, none⟩) 6 exP → Calls Tryd.prog 11 #[.slice (some ⟨g, 0, none⟩) 6 6] W fun e W' => e = .returned (.int .i64 5) ∧ Below W.heap.size W W' := fun g W h h2 =>
    (a_longest _ 6 6 exP W h (Nat.le_refl _) (by unfold maxLen; omega) h2 ex_valid).mono fun e W' ⟨⟨R, r, _, he⟩, hb⟩ => ⟨by rw [he, ex_long r], hb⟩
  have HCP := Lib.hid chkP
  have HCQ := Lib.hid chkQ
  have HNP := Lib.hid ndP
  have HLP := Lib.hid lgP
  clear hE chkP chkQ ndP lgP
  go_enter Tryd.func7, Tryd.ntmps7
  go_upto_region 2 with (first
    | (go_at_call 21; refine (l_example _).mono ?_; rintro e w1 ⟨g, rfl, hr, hb⟩; have HR1 := Lib.hid hr; have HB1 := Lib.hid hb; clear hr hb)
    | (go_at_call 9; refine (HCP.out _ w1 (HE.out.below HB1.out) HR1.out).mono ?_; rintro e w2 ⟨rfl, hb⟩; have HB2 := Lib.hid (HB1.out.trans (hb.mono HB1.out.size)); clear hb))
  go_upto_region 3 with (first
    | (go_at_call 21; refine (l_example _).mono ?_; rintro e w3 ⟨g3, rfl, hr, hb⟩; have HR3 := Lib.hid hr; have HB3 := Lib.hid (HB2.out.trans (hb.mono HB2.out.size)); clear hr hb)
    | (go_at_call 14; refine (HNP.out _ w3 (HE.out.below HB3.out) HR3.out).mono ?_; rintro e w4 ⟨rfl, hb⟩; have HB4 := Lib.hid (HB3.out.trans (hb.mono HB3.out.size)); clear hb))
  go_upto_region 4 with (go_at_call 9; refine (HCQ.out _ _ (HE.out.below (HB4.out.alloc HB4.out.size _)) (HQ.out w4)).mono ?_; rintro e w5 ⟨rfl, hb⟩; have HB5 := Lib.hid ((HB4.out.alloc HB4.out.size _).trans (hb.mono (HB4.out.alloc HB4.out.size _).size)); clear hb)
  go_wp2_with (first
    | (go_at_call 21; refine (l_example _).mono ?_; rintro e w6 ⟨g6, rfl, hr, hb⟩; have HR6 := Lib.hid hr; have HB6 := Lib.hid (HB5.out.trans (hb.mono HB5.out.size)); clear hr hb)
    | (go_at_call 11; refine (HLP.out _ w6 (HE.out.below HB6.out) HR6.out).mono ?_; rintro e w7 ⟨rfl, hb⟩; have HB7 := Lib.hid (HB6.out.trans (hb.mono HB6.out.size)); clear hb))
  go_ret
  exact ⟨rfl, HB7.out⟩
end Go.Proofs.YthnhmclnfgkppaaDoor.PgO
