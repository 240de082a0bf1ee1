/-
  Contract of Parse of package isa.
-/
import Derived.Test.YtcplhochgngedaaGreatDoorIsaQ
namespace Go.Proofs.YtcplhochgngedaaGreatDoor.IsaX
open Go.ChangeShapes Go.WideShapes Go.ChangeAt Go.RowKit
open PlainT IsaE IsaS BlkW IsaA IsaB IsaF IsaP IsaQ
set_option linter.unusedVariables false
set_option maxHeartbeats 400000

/-- The instruction that Parse returns, if any. -/
def parseQ (s : ByteArray) : Option (Nat × Fields) :=
  if 200 < s.size then none else (readV ((words s).map bts)).bind fun x => if chk x.1 x.2.a x.2.b x.2.c x.2.i = 0 then some x else none
def parseE (s : ByteArray) : Int :=
  if 200 < s.size then 3 else match readV ((words s).map bts) with | none => 4 | some x => chk x.1 x.2.a x.2.b x.2.c x.2.i
theorem space_pays (w : World) : PredAtRunes Tryz.prog 109 #[] isSp w := by
  intro W x hx hb
  unfold FnGives
  by_cases h : x = 32
  · have HV := Lib.hid (show isSp x = true by rw [h]; rfl)
    have q : (((x : Nat) : Int) == 32) = true := by rw [beq_iff_eq]; omega
    clear h
    go_enter Tryz.func109, Tryz.ntmps109
    go_wp2
    go_ret
    exact ⟨by rw [HV.out]; rfl, 0, rfl⟩
  · have HV := Lib.hid (show isSp x = false by unfold isSp; simpa using h)
    have q : (((x : Nat) : Int) == 32) = false := by rw [beq_eq_false_iff_ne]; omega
    clear h
    go_enter Tryz.func109, Tryz.ntmps109
    go_wp2
    go_ret
    exact ⟨by rw [HV.out]; rfl, 0, rfl⟩
/-- FieldsFunc at spaces. -/
def WordsIs (s : ByteArray) (w : World) (e : Ending) (w' : World) : Prop := ∃ A n, e = .returned (.slice (some ⟨A, 0, none⟩) n n) ∧ StrRow w' (some ⟨A, 0, none⟩) n (words s) ∧ n ≤ s.size + 1 ∧ Below w.heap.size w w'
theorem a_fields (s : ByteArray) (hs : s.size ≤ 100000) (w : World) : Calls Tryz.prog 106 #[.string s, .func (.func 109) #[] #[]] w fun e w' => WordsIs s w e w' := by
  have eg := enters_of Tryz.func109 (by kernel_rfl) rfl
  refine (Tryz.strings_FieldsFunc_runes 109 #[] eg isSp s w (by omega) (space_pays w)).mono ?_
  rintro e w' ⟨A, rfl, hA, hown, hb⟩
  rw [fields_words] at hown ⊢
  refine ⟨A, _, rfl, ?_, words_len s, hb⟩
  refine ⟨rfl, fun hn => ?_⟩
  obtain ⟨g, cap, e, _, hg, _, _, hc⟩ := str_of_own hown hn
  injection e with e1 _ _
  injection e1 with e1
  injection e1 with e1
  subst e1
  exact ⟨A, 0, rfl, hg, fun j x hx => by rw [Nat.zero_add]; exact hc j x hx⟩
theorem a_readIs_none {ws : List ByteArray} {w w' : World} {e : Ending} (h : ReadIs ws w e w') (hn : readV (ws.map bts) = none) : e = .returned (.tuple #[ins 0 0 0 0 0, .bool false]) ∧ Below w.heap.size w w' :=
  ⟨by rw [h.2, hn]; rfl, h.1⟩
theorem a_readIs_some {ws : List ByteArray} {w w' : World} {e : Ending} (h : ReadIs ws w e w') {k : Nat} {q : Fields} (hn : readV (ws.map bts) = some (k, q)) : e = .returned (.tuple #[ins k q.a q.b q.c q.i, .bool true]) ∧ Below w.heap.size w w' :=
  ⟨by rw [h.2, hn]; rfl, h.1⟩
def ParseIs (s : ByteArray) (w : World) (e : Ending) (w' : World) : Prop := Below w.heap.size w w' ∧ e = .returned (.tuple #[insR (parseQ s), .int .i64 (parseE s)])
theorem a_parse_long (s : ByteArray) (hs : 200 < s.size) (w : World) : Calls Tryz.prog 87 #[.string s] w fun e w' => ParseIs s w e w' := by
  have HQ := Lib.hid (show parseQ s = none by unfold parseQ; rw [if_pos hs])
  have HE := Lib.hid (show parseE s = 3 by unfold parseE; rw [if_pos hs])
  go_enter Tryz.func87, Tryz.ntmps87
  go_wp2
  refine bodyPost_ret (v := .tuple #[insR (parseQ s), .int .i64 (parseE s)]) ?_ rfl ⟨below_new _ _, rfl⟩
  rw [HQ.out, HE.out]
  simp [results, Tryz.results87, go_sem, insR]
theorem a_parse_short (s : ByteArray) (hs : ¬ 200 < s.size) (w : World) (h : Env w) : Calls Tryz.prog 87 #[.string s] w fun e w' => ParseIs s w e w' := by
  have hs2 : s.size ≤ 200 := by omega
  have HQ := Lib.hid (show parseQ s = (readV ((words s).map bts)).bind fun x => if chk x.1 x.2.a x.2.b x.2.c x.2.i = 0 then some x else none by unfold parseQ; rw [if_neg hs])
  have HE := Lib.hid (show parseE s = match readV ((words s).map bts) with | none => 4 | some x => chk x.1 x.2.a x.2.b x.2.c x.2.i by unfold parseE; rw [if_neg hs])
  clear hs
  go_enter Tryz.func87, Tryz.ntmps87
  go_wp2_with fail
  refine (a_fields s (Nat.le_trans hs2 (by decide)) _).mono ?_
  rintro e w1 ⟨A, n, rfl, hrow, hn, hb1⟩
  have hm1 : Mem w1 w.heap.size 40 #[.int .i64 0, .int .i64 0, .int .i64 0, .int .i64 0, .int .i64 0] := (Mem.new w _ _).below hb1 (by simp)
  have hE1 : Env w1 := (h.alloc _).below hb1
  have hbw := (below_new w (.cells #[.int .i64 0, .int .i64 0, .int .i64 0, .int .i64 0, .int .i64 0] 40)).trans (hb1.mono (by simp))
  have hlt1 := hm1.lt
  clear hb1
  go_wp2_with fail
  refine (a_read _ n n (words s) w1 hE1 (fun x hx => by
    have := (words_size s x hx).1
    intro e0
    have h1 : 0 = x.size := by rw [← bytes_len, e0]; rfl
    omega) (fun y hy => by have := (words_size s y hy).2; omega) hrow (by omega)).mono ?_
  rintro e w2 hrd
  have hE2 : Env w2 := hE1.below hrd.1
  have hm2 := hm1.below hrd.1 hlt1
  have hbw2 := hbw.trans (hrd.1.mono (by omega))
  have hsz2 := hrd.1.size
  clear hm1 hbw hE1 hrow
  cases hr : readV ((words s).map bts) with
  | none =>
    obtain ⟨rfl, _⟩ := a_readIs_none hrd hr
    have HQ2 := Lib.hid (show parseQ s = none by rw [HQ.out, hr]; rfl)
    have HE2 := Lib.hid (show parseE s = 4 by rw [HE.out, hr])
    clear hrd hr
    obtain ⟨z0, z1, z2, z3, z4⟩ := boxed_cells (op := 0) (a := 0) (b := 0) (c := 0) (i := 0) hm2
    have hfz := hm2.frozen
    have hlt2 := hm2.lt
    have Y := Lib.hid (fun o => boxed_cells (op := 0) (a := 0) (b := 0) (c := 0) (i := 0) ((mem_store5 hm2 rfl (.int .i64 0) (.int .i64 0) (.int .i64 0) (.int .i64 0) (.int .i64 0)).alloc o))
    have hb4 := below_store5 hbw2 (Nat.le_refl _) (.int .i64 0) (.int .i64 0) (.int .i64 0) (.int .i64 0) (.int .i64 0)
    clear hm2
    go_wp2
    refine bodyPost_ret (v := .tuple #[insR (parseQ s), .int .i64 (parseE s)]) ?_ rfl ⟨hb4.alloc (by simp; omega) _, rfl⟩
    rw [HQ2.out, HE2.out]
    simp [results, Tryz.results87, go_sem, insR, (Y.out _).1, (Y.out _).2.1, (Y.out _).2.2.1, (Y.out _).2.2.2.1, (Y.out _).2.2.2.2]
  | some x =>
    obtain ⟨k, q⟩ := x
    obtain ⟨rfl, _⟩ := a_readIs_some hrd hr
    clear hrd
    have HR := Lib.hid hr
    clear hr
    go_wp2_with fail
    refine (a_check k q.a q.b q.c q.i _ (hE2.alloc _)).mono ?_
    rintro e w3 ⟨rfl, hb3⟩
    have hm3 := (hm2.alloc (.cells (qbox k q) 40)).below hb3 (by rw [size_new]; omega)
    have hi3 : Mem w3 w2.heap.size 40 (qbox k q) := (Mem.new w2 40 (qbox k q)).below hb3 (by rw [size_new]; omega)
    have hbw3 := (hbw2.alloc (by omega) (.cells (qbox k q) 40)).trans (hb3.mono (by rw [size_new]; omega))
    have hsz3 : w2.heap.size < w3.heap.size := hi3.lt
    obtain ⟨z0, z1, z2, z3, z4⟩ := boxed_cells (op := 0) (a := 0) (b := 0) (c := 0) (i := 0) hm3
    have hfz := hm3.frozen
    have hlt3 := hm3.lt
    clear hb3 hm2 hE2 hbw2
    rcases chk_cases k q.a q.b q.c q.i with ⟨hc, _, _⟩ | hc | hc
    · have HQ2 := Lib.hid (show parseQ s = some (k, q) by rw [HQ.out, HR.out, Option.bind_some]; simp only; rw [if_pos hc])
      have HE2 := Lib.hid (show parseE s = 0 by rw [HE.out, HR.out]; exact hc)
      rw [hc]
      clear hc
      obtain ⟨y0, y1, y2, y3, y4⟩ := qbox_cells hi3
      have Y := Lib.hid (qbox_cells (mem_store5 hm3 rfl (.int .i64 k) (.int .i64 q.a) (.int .i64 q.b) (.int .i64 q.c) (.int .i64 q.i)))
      have hb4 := below_store5 hbw3 (Nat.le_refl _) (.int .i64 k) (.int .i64 q.a) (.int .i64 q.b) (.int .i64 q.c) (.int .i64 q.i)
      clear hm3 hi3
      go_wp2
      refine bodyPost_ret (v := .tuple #[insR (parseQ s), .int .i64 (parseE s)]) ?_ rfl ⟨hb4, rfl⟩
      rw [HQ2.out, HE2.out]
      simp [results, Tryz.results87, go_sem, insR, Y.out.1, Y.out.2.1, Y.out.2.2.1, Y.out.2.2.2.1, Y.out.2.2.2.2]
    all_goals
      have HQ2 := Lib.hid (show parseQ s = none by rw [HQ.out, HR.out, Option.bind_some]; simp only; rw [if_neg (by omega)])
      have HE2 := Lib.hid ((show parseE s = chk k q.a q.b q.c q.i by rw [HE.out, HR.out]).trans hc)
      rw [hc]
      clear hc
      have Y := Lib.hid (boxed_cells (op := 0) (a := 0) (b := 0) (c := 0) (i := 0) (mem_store5 hm3 rfl (.int .i64 0) (.int .i64 0) (.int .i64 0) (.int .i64 0) (.int .i64 0)))
      have hb4 := below_store5 hbw3 (Nat.le_refl _) (.int .i64 0) (.int .i64 0) (.int .i64 0) (.int .i64 0) (.int .i64 0)
      clear hm3 hi3
      go_wp2
      refine bodyPost_ret (v := .tuple #[insR (parseQ s), .int .i64 (parseE s)]) ?_ rfl ⟨hb4, rfl⟩
      rw [HQ2.out, HE2.out]
      simp [results, Tryz.results87, go_sem, insR, Y.out.1, Y.out.2.1, Y.out.2.2.1, Y.out.2.2.2.1, Y.out.2.2.2.2]
/-- Parse returns the instruction and the error of the document. -/
theorem a_parse (s : ByteArray) (w : World) (h : Env w) : Calls Tryz.prog 87 #[.string s] w fun e w' => ParseIs s w e w' := by
  by_cases hs : 200 < s.size
  · exact a_parse_long s hs w
  · exact a_parse_short s hs w h
end Go.Proofs.YtcplhochgngedaaGreatDoor.IsaX
