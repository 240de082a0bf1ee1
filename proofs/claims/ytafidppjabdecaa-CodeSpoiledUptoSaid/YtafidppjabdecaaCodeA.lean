import Derived.Test.YtafidppjabdecaaCodeW
import Derived.Lib.Hide
import Derived.IntWalk
import Derived.Test.YtafidppjabdecaaRows
namespace Go.Proofs.Ytafidppjabdecaa.CodeA
open Go.ChangeShapes Go.WideShapes Go.ChangeAt Go.RowKit
open PlainT BlkW LawFrame CodeS CodeW
set_option linter.unusedVariables false
set_option maxHeartbeats 1000000

theorem not64 (n : Int) (h : InI n) : bits .xor .i64 (-1) n = -n - 1 := by
  unfold InI at h
  unfold bits
  show IntKind.i64.wrap ((BitVec.ofInt 64 (-1) ^^^ BitVec.ofInt 64 n).toNat : Int) = _
  have e : BitVec.ofInt 64 (-1) = BitVec.allOnes 64 := by decide
  rw [e, BitVec.allOnes_xor, BitVec.toNat_not, BitVec.toNat_ofInt]
  simp only [IntKind.wrap, IntKind.bits, IntKind.signed, Bool.true_and, decide_eq_true_eq]
  split <;> rename_i h2 <;> simp at h2 ⊢ <;> omega
theorem a_fold (n v : Int) (hn : InI n) (hv : sF n = v) (w : World) : Calls Try.prog 32 #[.int .i64 n] w fun e w' => e = .returned (.int .u64 v) ∧ w = w' := by
  have X := not64 n hn
  have hs : IntKind.i64.signed = true := rfl
  unfold InI at hn
  obtain ⟨h1, h2⟩ := hn
  by_cases h : n < 0
  · unfold sF at hv
    rw [if_pos h] at hv
    obtain ⟨m, hm⟩ : ∃ m, -n - 1 = m := ⟨_, rfl⟩
    have b1 : 0 ≤ m := by omega
    have b2 : m ≤ 9223372036854775807 := by omega
    rw [hm] at hv X
    subst hv
    clear hm
    go_enter Try.func32, Try.ntmps32
    go_wp2
    go_ret
    exact ⟨rfl, rfl⟩
  · unfold sF at hv
    rw [if_neg h] at hv
    subst hv
    go_enter Try.func32, Try.ntmps32
    go_wp2
    go_ret
    exact ⟨rfl, rfl⟩
theorem a_unfold (v n : Int) (hv : InU v) (hn : sU v = n) (w : World) : Calls Try.prog 47 #[.int .u64 v] w fun e w' => e = .returned (.int .i64 n) ∧ w = w' := by
  unfold InU at hv
  obtain ⟨h1, h2⟩ := hv
  have X := not64 (v / 2) (by unfold InI; omega)
  have hs : IntKind.i64.signed = true := rfl
  by_cases h : v % 2 = 1
  · unfold sU at hn
    rw [if_pos h] at hn
    subst hn
    go_enter Try.func47, Try.ntmps47
    go_wp2
    go_ret
    exact ⟨rfl, rfl⟩
  · unfold sU at hn
    rw [if_neg h] at hn
    subst hn
    go_enter Try.func47, Try.ntmps47
    go_wp2
    go_ret
    exact ⟨rfl, rfl⟩
theorem ret_bool {a b : Bool} (h : a = b) : Ending.returned (.bool a) = .returned (.bool b) := by rw [h]
theorem a_full (g : Nat) (A : Option Addr) (n c : Nat) (w : World) (h : Mem w g 49 #[.slice A n c]) (hn : n ≤ maxLen) (b : Bool) (hb : decide (262144 < n) = b) : Calls Try.prog 20 #[.pointer (some ⟨g, 0, none⟩)] w fun e w' => e = .returned (.bool b) ∧ w = w' := by
  unfold maxLen at hn
  have c0 : w.cell? ⟨g, 0, none⟩ = some (.slice A n c) := h.cell 0
  have HB := Lib.hid hb
  clear hb h
  go_enter Try.func20, Try.ntmps20
  go_wp2
  go_ret
  exact ⟨ret_bool (by rw [← HB.out]; exact decide_eq_decide.2 (by omega)), rfl⟩

/-! ### The writer. -/
/-- The types of the blocks that a writer writes to. -/
def TW : List Nat := [5, 49]
/-- The writer in block g holds the bytes xs. -/
def Wr (B : Nat) (w : World) (g : Nat) (xs : List Int) : Prop := B ≤ g ∧ B ≤ w.heap.size ∧ ∃ v, Mem w g 49 #[v] ∧ Rw B w v xs
theorem Wr.old {B g : Nat} {w w' : World} {xs : List Int} (h : Wr B w g xs) (k : Old w w') : Wr B w' g xs := by
  obtain ⟨h1, h2, v, h3, h4⟩ := h
  exact ⟨h1, Nat.le_trans h2 k.1, v, h3.old k, h4.old k⟩
theorem Wr.alloc {B g : Nat} {w : World} {xs : List Int} (h : Wr B w g xs) (o : Obj) : Wr B (w.alloc o) g xs := h.old ((Old.refl w).alloc o)
/-- What a push of one byte does: the run of append, and the store. -/
theorem push {B g : Nat} {w : World} {xs : List Int} (h : Wr B w g xs) (hl : xs.length ≤ 1000000000000) (x : Int) :
    ∃ v v' w', w.cell? ⟨g, 0, none⟩ = some v ∧ (∃ A n c, v = .slice A n c) ∧ (∃ A n c, v' = .slice A n c) ∧ g < w.heap.size ∧ w'.frozen? ⟨g, 0, none⟩ = false ∧ w'.cell? ⟨g, 0, none⟩ = some v ∧
      (Builtin.append_ #[31, 31] 31 #[v, .slice (some ⟨w.heap.size, 0, none⟩) 1 1]).run Try.prog (w.alloc (.cells #[.int .u8 x] 5)) = .ok v' w' ∧
      Wr B (w'.setCell ⟨g, 0, none⟩ v') g (xs ++ [x]) ∧ Fr TW B w (w'.setCell ⟨g, 0, none⟩ v') := by
  obtain ⟨hBg, hBs, v, hm, hown⟩ := h
  have hws : (w.alloc (.cells #[.int .u8 x] 5)).heap.size = w.heap.size + 1 := size_new _ _
  have hown1 := hown.old ((Old.refl w).alloc (.cells #[.int .u8 x] 5))
  obtain ⟨v', w', hrun, hown', hgr⟩ := rw_append hown1 (by rw [hws]; omega) ⟨w.heap.size, 0, none⟩ 1 1 [x] rfl (by omega) (cell_lit (W := w) (T := 5) (l := bC [x])) (by omega)
  have hne : v.ownBlock ≠ some g := hown.ne hm (by decide)
  have hm1 : Mem w' g 49 #[v] := (hgr.block g (by rw [hws]; have := hm.lt; omega) (fun e => hne e.symm)).trans (hm.alloc _)
  have hne' : v'.ownBlock ≠ some g := hown'.ne hm1 (by decide)
  obtain ⟨A', c', rfl, _⟩ := hown'.slice
  obtain ⟨A, c, rfl, _⟩ := hown.slice
  refine ⟨_, _, w', hm.cell 0, ⟨_, _, _, rfl⟩, ⟨_, _, _, rfl⟩, hm.lt, hm1.frozen 0, hm1.cell 0, hrun, ⟨hBg, ?_, .slice A' (xs ++ [x]).length c', ?_, ?_⟩, ?_⟩
  · have := hgr.size
    simp only [World.setCell, Array.size_modify]
    omega
  · exact hm1.set_ 0 (.slice A' (xs ++ [x]).length c')
  · exact hown'.far (a := ⟨g, 0, none⟩) hne' _
  · refine Fr.setCell (p := ⟨g, 0, none⟩) (Fr.grown ((Fr.refl TW B w).alloc hBs _) hgr (by rw [hws]; omega) (fun k hk => ?_)) hBg hm1 (by unfold TW; simp) _
    obtain ⟨h1, cs, t, fr, h2, h3⟩ := hown1.row k hk
    exact ⟨h1, cs, t, fr, h2, by subst h3; unfold TW; simp⟩
/-- append, run in a known way. -/
theorem wpList_append_run {P : Program} {ops : Array Oper} {rest : List Oper} {o : Oper} {a : Act} {w : World} {Q : Exit → Act → World → Prop} (hgd : o.guard = none) (s x : Operand) (t : TypeId)
    (ho : o.op = .call { callee := .builtin .append, args := #[s, x], argTypes := #[t, t] }) {vs vx v : Value} {w' : World} (hrun : (Builtin.append_ #[t, t] o.type #[vs, vx]).run P w = .ok v w') (hs : a.eval s = vs) (hx : a.eval x = vx)
    (h : wpList P ops Q rest (a.put o.dst v) w') : wpList P ops Q (o :: rest) a w := by
  refine wpList_plain hgd fun _ hK => ?_
  unfold Oper.wp execOp
  simp only [ho, resolve, invoke, builtin, Sem.run_bind, Sem.run_pure, Result.andThen_ok, List.map_toArray, List.map_cons, List.map_nil, hs, hx, hrun]
  exact hK _ _ h

/-- The writer in block g holds the bytes sp, or more than there may be. -/
def WS (B : Nat) (w : World) (g : Nat) (sp : List Int) : Prop := ∃ xs, Wr B w g xs ∧ (xs = sp ∨ 262144 < xs.length ∧ 262144 < sp.length) ∧ xs.length ≤ 262200
theorem wf_u64 {x : Int} (h : (Lit.int .u64 x).wf = true) : 0 ≤ x ∧ x ≤ 18446744073709551615 := by
  have h2 : IntKind.u64.min ≤ x ∧ x ≤ IntKind.u64.max := by simpa [Lit.wf] using h
  rw [show IntKind.u64.min = 0 by decide, show IntKind.u64.max = 18446744073709551615 by decide] at h2
  exact h2
theorem wf_i64 {x : Int} (h : (Lit.int .i64 x).wf = true) : InI x := by
  have h2 : IntKind.i64.min ≤ x ∧ x ≤ IntKind.i64.max := by simpa [Lit.wf] using h
  rw [show IntKind.i64.min = -9223372036854775808 by decide, show IntKind.i64.max = 9223372036854775807 by decide] at h2
  exact h2
theorem wf_of_u64 {x : Int} (h : InU x) : (Lit.int .u64 x).wf = true := by
  have h2 : IntKind.u64.min ≤ x ∧ x ≤ IntKind.u64.max := by
    rw [show IntKind.u64.min = 0 by decide, show IntKind.u64.max = 18446744073709551615 by decide]
    exact h
  simpa [Lit.wf] using h2
theorem wf_of_i64 {x : Int} (h : InI x) : (Lit.int .i64 x).wf = true := by
  have h2 : IntKind.i64.min ≤ x ∧ x ≤ IntKind.i64.max := by
    rw [show IntKind.i64.min = -9223372036854775808 by decide, show IntKind.i64.max = 9223372036854775807 by decide]
    exact h
  simpa [Lit.wf] using h2
theorem flat_le (sp z : List Int) (k : Nat) : (sp ++ (z.take k).flatMap uB).length ≤ (sp ++ z.flatMap uB).length := by
  have e : z = z.take k ++ z.drop k := (List.take_append_drop k z).symm
  conv => rhs; rw [e]
  rw [List.flatMap_append]
  simp only [List.length_append]
  omega
def UInv (B g : Nat) (w : World) (sp z : List Int) (n : Nat) (i : Value) (wr : World) : Prop := ∃ k : Nat, k ≤ n ∧ i = .int .i64 k ∧ WS B wr g (sp ++ (z.take k).flatMap uB) ∧ Fr TW B w wr
def NInv (B g : Nat) (w : World) (tot : List Int) (i : Value) (wr : World) : Prop := ∃ u : Int, 0 ≤ u ∧ u ≤ 18446744073709551615 ∧ i = .int .u64 u ∧ (∃ ys, Wr B wr g ys ∧ ys ++ uB u = tot) ∧ Fr TW B w wr
set_option maxHeartbeats 2000000 in
set_option maxRecDepth 100000 in
theorem a_unsigned (B g : Nat) (sp z : List Int) (A : Option Addr) (n c : Nat) (w : World) (h : WS B w g sp) (hz : Ints .u64 w A n z) (hs : 0 < n → Stay TW B w A) (hn : n ≤ maxLen) :
    Calls Try.prog 19 #[.pointer (some ⟨g, 0, none⟩), .slice A n c] w fun e w' => e = .returned (.tuple #[]) ∧ WS B w' g (sp ++ z.flatMap uB) ∧ Fr TW B w w' := by
  unfold maxLen at hn
  have hs0 : IntKind.i64.signed = true := rfl
  go_enter Try.func19, Try.ntmps19
  go_wp2
  go_loopw [8] (fun i wr => UInv B g w sp z n i wr) (fun i _ => n - (intOf i).toNat)
  case atStart => exact ⟨0, Nat.zero_le _, rfl, by simpa using h, Fr.refl _ _ _⟩
  case round =>
    obtain ⟨k, hk, rfl, hws, hfr⟩ := hrel
    obtain ⟨xs, hwr, hx, hxl⟩ := hws
    obtain ⟨hBg, hBs, v, hm, hown⟩ := hwr
    obtain ⟨A1, c1, rfl, hl1, hl2⟩ := hown.slice
    by_cases hlt : k < n
    · obtain ⟨b, off, x, rfl, hb, hc, hzk, hxw⟩ := Ints.at (Ints.fr hz hs hfr) hlt
      cases hd : decide (262144 < xs.length) with
      | true =>
        go_wp2_with (go_at_call 20; refine (a_full _ _ _ _ _ hm (by omega) true hd).mono ?_; rintro e w1 ⟨rfl, rfl⟩)
        go_end0
        have hx2 : 262144 < xs.length := of_decide_eq_true hd
        refine ⟨rfl, ⟨xs, ⟨hBg, hBs, _, hm, hown⟩, .inr ⟨hx2, ?_⟩, hxl⟩, hfr⟩
        have hlen : (sp ++ (z.take k).flatMap uB).length ≤ (sp ++ z.flatMap uB).length := flat_le sp z k
        rcases hx with rfl | hx
        · omega
        · omega
      | false =>
        have hx2 : xs.length ≤ 262144 := by have := of_decide_eq_false hd; omega
        obtain rfl : xs = sp ++ (z.take k).flatMap uB := by
          rcases hx with hx | hx
          · exact hx
          · omega
        obtain ⟨hx0, hx1⟩ := wf_u64 hxw
        have HU := Lib.hid (uB_ten (v := x) ⟨hx0, hx1⟩)
        have HW : Hid (Wr B wr g (sp ++ (z.take k).flatMap uB)) := ⟨hBg, hBs, _, hm, hown⟩
        have HL := Lib.hid hx2
        have HZ := Lib.hid hzk
        clear hx hzk hx2
        obtain ⟨xs, hxs⟩ : ∃ xs, xs = sp ++ (z.take k).flatMap uB := ⟨_, rfl⟩
        rw [← hxs] at hm hown hl1 hd HW HL
        have HX := Lib.hid hxs
        clear hxs
        go_wp2_with (go_at_call 20; refine (a_full _ _ _ _ _ hm (by omega) false hd).mono ?_; rintro e w1 ⟨rfl, rfl⟩)
        clear hm hown
        go_loopw [5] (fun i wi => NInv B g w (xs ++ uB x) i wi) (fun i _ => (intOf i).toNat)
        case atStart => exact ⟨x, hx0, hx1, rfl, ⟨xs, HW.out, rfl⟩, hfr⟩
        case round =>
          obtain ⟨u, hu0, hu1, rfl, ⟨ys, hwy, htot⟩, hfy⟩ := hrel
          have HT := Lib.hid htot
          clear htot
          have hyl : ys.length ≤ 262200 := by
            have := congrArg List.length HT.out
            simp only [List.length_append] at this
            have := HU.out
            have := HL.out
            omega
          by_cases h128 : 128 ≤ u
          · obtain ⟨v, v', w2, hc0, ⟨Av, nv, cv, rfl⟩, ⟨Aw, nw, cw, rfl⟩, hgl, hf0, hc1, hrun, hwr', hfr'⟩ := push hwy (by omega) (u % 128 + 128)
            have HR := Lib.hid hrun
            have hfw : wr.frozen? ⟨g, 0, none⟩ = false := by
              obtain ⟨_, _, _, hm, _⟩ := hwy
              exact hm.frozen 0
            have HS := Lib.hid (show ys ++ [u % 128 + 128] ++ uB (u / 128) = xs ++ uB x by rw [← HT.out, uB_big h128]; simp)
            clear hrun hwy
            go_wp2_with (at_builtin; refine wpList_append_run rfl _ _ _ rfl HR.out (by rfl) (by rfl) ?_)
            go_roundw
            case rel => exact ⟨u / 128, by omega, by omega, rfl, ⟨_, hwr', HS.out⟩, hfy.trans hfr'⟩
            case measure => simp [intOf]; omega
          · obtain ⟨v, v', w2, hc0, ⟨Av, nv, cv, rfl⟩, ⟨Aw, nw, cw, rfl⟩, hgl, hf0, hc1, hrun, hwr', hfr'⟩ := push hwy (by omega) u
            have HR := Lib.hid hrun
            have hfw : wr.frozen? ⟨g, 0, none⟩ = false := by
              obtain ⟨_, _, _, hm, _⟩ := hwy
              exact hm.frozen 0
            have HS := Lib.hid (show ys ++ [u] = xs ++ uB x by rw [← HT.out, uB_small (by omega)])
            clear hrun hwy
            go_wp2_with (at_builtin; refine wpList_append_run rfl _ _ _ rfl HR.out (by rfl) (by rfl) ?_)
            go_roundw
            case rel =>
              refine ⟨k + 1, by omega, by go_num, ⟨_, hwr', .inl ?_, ?_⟩, hfy.trans hfr'⟩
              · rw [HS.out, List.take_add_one, HZ.out, List.flatMap_append, HX.out]
                simp
              · have e1 := congrArg List.length HS.out
                have e2 := HU.out
                have e3 := HL.out
                simp only [List.length_append] at e1 ⊢
                omega
            case measure => simp [intOf]; omega
    · go_wp2
      go_end0
      refine ⟨rfl, ⟨xs, ⟨hBg, hBs, _, hm, hown⟩, ?_, hxl⟩, hfr⟩
      rw [List.take_of_length_le (by rw [hz.1]; omega)] at hx
      exact hx
theorem WS.fr_ {B g : Nat} {w : World} {sp : List Int} (h : WS B w g sp) : B ≤ w.heap.size := by
  obtain ⟨_, ⟨_, h, _⟩, _⟩ := h
  exact h
theorem WS.old {B g : Nat} {w w' : World} {sp : List Int} (h : WS B w g sp) (k : Old w w') : WS B w' g sp := by
  obtain ⟨xs, h1, h2⟩ := h
  exact ⟨xs, h1.old k, h2⟩
theorem WS.alloc {B g : Nat} {w : World} {sp : List Int} (h : WS B w g sp) (o : Obj) : WS B (w.alloc o) g sp := h.old ((Old.refl w).alloc o)
/-- A literal of numbers is written. -/
theorem a_length (B g : Nat) (sp : List Int) (n : Nat) (w : World) (h : WS B w g sp) (hn : n ≤ maxLen) :
    Calls Try.prog 18 #[.pointer (some ⟨g, 0, none⟩), .int .i64 n] w fun e w' => e = .returned (.tuple #[]) ∧ WS B w' g (sp ++ uB n) ∧ Fr TW B w w' := by
  unfold maxLen at hn
  have hl := Lib.hid (ints_lit .u64 w 46 [(n : Int)] 1 rfl (by simp only [List.mem_singleton]; rintro x rfl; exact wf_of_u64 ⟨by omega, by omega⟩))
  have hst := Lib.hid (Stay.mem (T := TW) (B := B) (o := 0) (Mem.new w 46 #[.int .u64 n]) (by unfold TW; decide))
  have H := Lib.hid (h.alloc (.cells #[.int .u64 n] 46))
  have hB := h.fr_
  clear h
  go_enter Try.func18, Try.ntmps18
  go_wp2_with (go_at_call 19; refine (a_unsigned B g sp [(n : Int)] _ 1 _ _ H.out hl.out (fun _ => hst.out) (by unfold maxLen; omega)).mono ?_; rintro e w1 ⟨rfl, h1, hf1⟩)
  go_end0
  exact ⟨rfl, by simpa using h1, (Fr.of_below (below_new w _) hB).trans hf1⟩
def SInv (B g : Nat) (w : World) (sp z : List Int) (n : Nat) (i : Value) (wr : World) : Prop := ∃ k : Nat, k ≤ n ∧ i = .int .i64 k ∧ WS B wr g (sp ++ (z.take k).flatMap sB) ∧ Fr TW B w wr
theorem flat_le' (sp z : List Int) (k : Nat) : (sp ++ (z.take k).flatMap sB).length ≤ (sp ++ z.flatMap sB).length := by
  have e : z = z.take k ++ z.drop k := (List.take_append_drop k z).symm
  conv => rhs; rw [e]
  rw [List.flatMap_append]
  simp only [List.length_append]
  omega
set_option maxHeartbeats 2000000 in
set_option maxRecDepth 100000 in
theorem a_signed (B g : Nat) (sp z : List Int) (A : Option Addr) (n c : Nat) (w : World) (h : WS B w g sp) (hz : Ints .i64 w A n z) (hs : 0 < n → Stay TW B w A) (hn : n ≤ maxLen) :
    Calls Try.prog 22 #[.pointer (some ⟨g, 0, none⟩), .slice A n c] w fun e w' => e = .returned (.tuple #[]) ∧ WS B w' g (sp ++ z.flatMap sB) ∧ Fr TW B w w' := by
  unfold maxLen at hn
  have hs0 : IntKind.i64.signed = true := rfl
  go_enter Try.func22, Try.ntmps22
  go_wp2
  go_loopw [8] (fun i wr => SInv B g w sp z n i wr) (fun i _ => n - (intOf i).toNat)
  case atStart => exact ⟨0, Nat.zero_le _, rfl, by simpa using h, Fr.refl _ _ _⟩
  case round =>
    obtain ⟨k, hk, rfl, hws, hfr⟩ := hrel
    have HWS := Lib.hid hws
    obtain ⟨xs, hwr, hx, hxl⟩ := hws
    obtain ⟨hBg, hBs, v, hm, hown⟩ := hwr
    obtain ⟨A1, c1, rfl, hl1, hl2⟩ := hown.slice
    by_cases hlt : k < n
    · obtain ⟨b, off, x, rfl, hb, hc, hzk, hxw⟩ := Ints.at (Ints.fr hz hs hfr) hlt
      cases hd : decide (262144 < xs.length) with
      | true =>
        go_wp2_with (go_at_call 20; refine (a_full _ _ _ _ _ hm (by omega) true hd).mono ?_; rintro e w1 ⟨rfl, rfl⟩)
        go_end0
        have hx2 : 262144 < xs.length := of_decide_eq_true hd
        refine ⟨rfl, ⟨xs, ⟨hBg, hBs, _, hm, hown⟩, .inr ⟨hx2, ?_⟩, hxl⟩, hfr⟩
        have hlen : (sp ++ (z.take k).flatMap sB).length ≤ (sp ++ z.flatMap sB).length := flat_le' sp z k
        rcases hx with rfl | hx
        · omega
        · omega
      | false =>
        have hin := wf_i64 hxw
        have HZ := Lib.hid hzk
        have HF := Lib.hid (sF_in hin)
        obtain ⟨f, hf⟩ : ∃ f, sF x = f := ⟨_, rfl⟩
        rw [hf] at HF
        have HD := Lib.hid hf
        have hl := Lib.hid (ints_lit .u64 wr 46 [f] 1 rfl (by simp only [List.mem_singleton]; rintro x rfl; exact wf_of_u64 HF.out))
        have hst := Lib.hid (Stay.mem (T := TW) (B := B) (o := 0) (Mem.new wr 46 #[.int .u64 f]) (by unfold TW; decide))
        have H := Lib.hid (HWS.out.alloc (.cells #[.int .u64 f] 46))
        clear hx hzk hf hown
        go_wp2_with (first | (go_at_call 20; (with_reducible refine (a_full _ _ _ _ _ hm (by omega) false hd).mono ?_); rintro e w1 ⟨rfl, rfl⟩) | (go_at_call 32; (with_reducible refine (a_fold _ _ hin HD.out _).mono ?_); rintro e w1 ⟨rfl, rfl⟩) | (go_at_call 19; refine (a_unsigned B g _ [f] _ 1 _ _ H.out hl.out (fun _ => hst.out) (by unfold maxLen; omega)).mono ?_; rintro e w1 ⟨rfl, h1, hf1⟩))
        have HB := Lib.hid h1
        clear h1
        go_wp2
        go_roundw
        case rel =>
          refine ⟨k + 1, by omega, by go_num, ?_, hfr.trans ((Fr.of_below (below_new wr _) hBs).trans hf1)⟩
          have := HB.out
          rw [List.take_add_one, HZ.out, List.flatMap_append]
          simpa [sB, HD.out] using this
        case measure => simp [intOf]; omega
    · go_wp2
      go_end0
      refine ⟨rfl, ⟨xs, ⟨hBg, hBs, _, hm, hown⟩, ?_, hxl⟩, hfr⟩
      rw [List.take_of_length_le (by rw [hz.1]; omega)] at hx
      exact hx
end Go.Proofs.Ytafidppjabdecaa.CodeA
