/-
  Contracts of label, namedJump and instruction of package asm.
-/
import Derived.Test.YtcplhochgngedaaGreatDoorAsmA
namespace Go.Proofs.YtcplhochgngedaaGreatDoor.AsmB
open Go.ChangeShapes Go.WideShapes Go.ChangeAt Go.RowKit
open PlainT IsaE IsaS BlkW IsaA IsaB IsaF IsaP IsaQ IsaX IsaL AsmS AsmA IsaR
set_option linter.unusedVariables false
set_option maxHeartbeats 1000000

/-! ### A label. -/
theorem a_trim (s : ByteArray) (hs : s.size ≤ 100000) (w : World) : Calls Tryz.prog 49 #[.string s, .string ⟨#[32]⟩] w fun e w' => e = .returned (.string (mk (Lib.trimB (bts s) 32))) ∧ ∃ n, w' = w.drewN n := by
  refine (Tryz.strings_Trim_one s 32 (by decide) w (by omega)).mono ?_
  rintro e w' ⟨rfl, rfl | rfl⟩
  · exact ⟨rfl, 0, rfl⟩
  · exact ⟨rfl, 1, rfl⟩
theorem trim_size (l : List UInt8) : (Lib.trimB l 32).length ≤ l.length := by
  obtain ⟨a, b, _, _, e, _⟩ := trim_parts l
  have := congrArg List.length e
  simp only [List.length_append] at this
  omega
theorem mk_len (l : List UInt8) : (mk l).size = l.length := by rw [← bytes_len, bts_mk]
theorem a_cutSuffix (l : List UInt8) (hl : l.length ≤ 100000) (n : List UInt8) (v : Bool) (hn : Lib.trimSuffix l [58] = n) (hv : Lib.hasSuffix l [58] = v) (w : World) :
    Calls Tryz.prog 84 #[.string (mk l), .string ⟨#[58]⟩] w fun e w' => e = .returned (.tuple #[.string (mk n), .bool v]) ∧ w = w' := by
  refine (Tryz.strings_CutSuffix (mk l) ⟨#[58]⟩ w (by rw [mk_len]; omega)).mono ?_
  rintro e w' ⟨rfl, rfl⟩
  subst hn hv
  have e1 : (mk l).data.toList = l := bts_mk l
  rw [e1]
  exact ⟨rfl, rfl⟩
/-- What label returns. -/
def LabelIs (s : ByteArray) (w : World) (e : Ending) (w' : World) : Prop :=
  (∃ n, w' = w.drewN n) ∧ e = .returned (match labelOf ((words s).map bts) with | some n => .tuple #[.string (mk n), .bool true] | none => .tuple #[.string ⟨#[]⟩, .bool false])
theorem a_label (s : ByteArray) (hs : s.size ≤ 100000) (w : World) : Calls Tryz.prog 50 #[.string s] w fun e w' => LabelIs s w e w' := by
  have hL := label_trim (bts s)
  have hT : (Lib.trimB (bts s) 32).length ≤ 100000 := by have := trim_size (bts s); rw [bytes_len] at this; omega
  obtain ⟨T, hT0⟩ : ∃ T, Lib.trimB (bts s) 32 = T := ⟨_, rfl⟩
  rw [hT0] at hL hT
  have HT := Lib.hid hT0
  clear hT0
  obtain ⟨N, hN⟩ : ∃ N, Lib.trimSuffix T [58] = N := ⟨_, rfl⟩
  have hNl : (mk N).size ≤ 100000 := by
    rw [mk_len, ← hN]
    unfold Lib.trimSuffix
    split
    · rw [List.length_take]; omega
    · exact hT
  rw [hN] at hL
  have HN := Lib.hid hN
  clear hN
  cases hv : Lib.hasSuffix T [58] with
  | false =>
    have HV := Lib.hid hv
    have HR := Lib.hid (show labelOf ((words s).map bts) = none by rw [words_list, hL, if_neg (by rw [hv]; simp)])
    clear hv hL
    go_enter Tryz.func50, Tryz.ntmps50
    go_wp2_with fail
    refine (a_trim s hs _).mono ?_
    rintro e w1 ⟨rfl, nn, rfl⟩
    rw [HT.out]
    go_wp2_with fail
    refine (a_cutSuffix T hT N false HN.out HV.out _).mono ?_
    rintro e w2 ⟨rfl, rfl⟩
    go_wp2
    go_ret2
    exact ⟨⟨_, rfl⟩, by rw [HR.out]; rfl⟩
  | true =>
    have HV := Lib.hid hv
    cases hi : isName N with
    | true =>
      have HI := Lib.hid (show isName (bts (mk N)) = true by rw [bts_mk]; exact hi)
      have HR := Lib.hid (show labelOf ((words s).map bts) = some N by rw [words_list, hL, if_pos ⟨hv, hi⟩])
      clear hv hL hi
      go_enter Tryz.func50, Tryz.ntmps50
      go_wp2_with fail
      refine (a_trim s hs _).mono ?_
      rintro e w1 ⟨rfl, nn, rfl⟩
      rw [HT.out]
      go_wp2_with fail
      refine (a_cutSuffix T hT N true HN.out HV.out _).mono ?_
      rintro e w2 ⟨rfl, rfl⟩
      go_wp2_with (go_at_call 85; refine (a_isName _ _ HI.out hNl _).mono ?_; rintro e w1 ⟨rfl, rfl⟩)
      go_ret2
      exact ⟨⟨_, rfl⟩, by rw [HR.out]; rfl⟩
    | false =>
      have HI := Lib.hid (show isName (bts (mk N)) = false by rw [bts_mk]; exact hi)
      have HR := Lib.hid (show labelOf ((words s).map bts) = none by rw [words_list, hL, if_neg (by rw [hi]; simp)])
      clear hv hL hi
      go_enter Tryz.func50, Tryz.ntmps50
      go_wp2_with fail
      refine (a_trim s hs _).mono ?_
      rintro e w1 ⟨rfl, nn, rfl⟩
      rw [HT.out]
      go_wp2_with fail
      refine (a_cutSuffix T hT N true HN.out HV.out _).mono ?_
      rintro e w2 ⟨rfl, rfl⟩
      go_wp2_with (go_at_call 85; refine (a_isName _ _ HI.out hNl _).mono ?_; rintro e w1 ⟨rfl, rfl⟩)
      go_ret2
      exact ⟨⟨_, rfl⟩, by rw [HR.out]; rfl⟩

/-! ### A jump to a name. -/
theorem space_pays (w : World) : PredAtRunes Tryz.prog 107 #[] isSp w := by
  intro W x hx hb
  unfold FnGives
  by_cases h : x = 32
  · have HV := Lib.hid (show isSp x = true by rw [h]; rfl)
    have q : (((x : Nat) : Int) == 32) = true := by rw [beq_iff_eq]; omega
    clear h
    go_enter Tryz.func107, Tryz.ntmps107
    go_wp2
    go_ret
    exact ⟨by rw [HV.out]; rfl, 0, rfl⟩
  · have HV := Lib.hid (show isSp x = false by unfold isSp; simpa using h)
    have q : (((x : Nat) : Int) == 32) = false := by rw [beq_eq_false_iff_ne]; omega
    clear h
    go_enter Tryz.func107, Tryz.ntmps107
    go_wp2
    go_ret
    exact ⟨by rw [HV.out]; rfl, 0, rfl⟩
/-- FieldsFunc at spaces: a row of the call's own. -/
def OwnWords (s : ByteArray) (w : World) (e : Ending) (w' : World) : Prop := ∃ A n, e = .returned (.slice (some ⟨A, 0, none⟩) n n) ∧ n = (words s).length ∧ w.heap.size ≤ A ∧ w'.ownsRow w.heap.size 9 1 (.slice (some ⟨A, 0, none⟩) n n) n ((words s).map Value.string) ∧ Below w.heap.size w w'
theorem a_fieldsJ (s : ByteArray) (hs : s.size ≤ 100000) (w : World) : Calls Tryz.prog 106 #[.string s, .func (.func 107) #[] #[]] w fun e w' => OwnWords s w e w' := by
  have eg := enters_of Tryz.func107 (by kernel_rfl) rfl
  refine (Tryz.strings_FieldsFunc_runes 107 #[] eg isSp s w (by omega) (space_pays w)).mono ?_
  rintro e w' ⟨A, rfl, hA, hown, hb⟩
  rw [fields_words] at hown ⊢
  exact ⟨A, _, rfl, rfl, hA, hown, hb⟩
theorem parse_none {s : ByteArray} (h : parseQ s = none) : parseE s ≠ 0 := by
  unfold parseQ at h
  unfold parseE
  by_cases hs : 200 < s.size
  · rw [if_pos hs]; decide
  · rw [if_neg hs] at h ⊢
    cases hr : readV ((words s).map bts) with
    | none => simp
    | some x =>
      rw [hr, Option.bind_some] at h
      simp only
      intro h0
      rw [if_pos h0] at h
      cases h
theorem read_lt {ws : List (List UInt8)} {k : Nat} {q : Fields} (h : readV ws = some (k, q)) : k < 18 := by
  obtain ⟨t, r, i, _, h1, _⟩ := read_op h
  exact named_lt h1
theorem parse_some {s : ByteArray} {k : Nat} {q : Fields} (h : parseQ s = some (k, q)) : parseE s = 0 ∧ chk k q.a q.b q.c q.i = 0 ∧ k < 18 := by
  unfold parseQ at h
  unfold parseE
  by_cases hs : 200 < s.size
  · rw [if_pos hs] at h; cases h
  · rw [if_neg hs] at h ⊢
    cases hr : readV ((words s).map bts) with
    | none => rw [hr] at h; cases h
    | some x =>
      rw [hr, Option.bind_some] at h
      simp only
      by_cases h0 : chk x.1 x.2.a x.2.b x.2.c x.2.i = 0
      · rw [if_pos h0] at h
        injection h with h
        subst h
        exact ⟨h0, h0, read_lt hr⟩
      · rw [if_neg h0] at h; cases h
def insJ (r : Option (Nat × Fields × List UInt8)) : Value := match r with | some (k, q, _) => ins k q.a q.b q.c q.i | none => ins 0 0 0 0 0
def nameJ (r : Option (Nat × Fields × List UInt8)) : ByteArray := match r with | some (_, _, n) => mk n | none => ⟨#[]⟩
def NJumpIs (s : ByteArray) (w : World) (e : Ending) (w' : World) : Prop :=
  Below w.heap.size w w' ∧ e = .returned (.tuple #[insJ (jumpOf ((words s).map bts)), .string (nameJ (jumpOf ((words s).map bts))), .bool (jumpOf ((words s).map bts)).isSome])
theorem a_njump_nil (s : ByteArray) (hs : s.size ≤ 100000) (hw : words s = []) (w : World) : Calls Tryz.prog 86 #[.string s] w fun e w' => NJumpIs s w e w' := by
  have HJ := Lib.hid (show jumpOf ((words s).map bts) = none by rw [hw]; rfl)
  have HN := Lib.hid (show (words s).length = 0 by rw [hw]; rfl)
  clear hw
  go_enter Tryz.func86, Tryz.ntmps86
  go_wp2_with fail
  refine (a_fieldsJ s hs _).mono ?_
  rintro e w1 ⟨A, n, rfl, hn, hA, hown, hb1⟩
  obtain rfl : n = 0 := hn.trans HN.out
  have hm1 := (Mem.new w 40 (boxed 0 0 0 0 0)).below hb1 (by simp)
  have hbw := (below_new w (.cells (boxed 0 0 0 0 0) 40)).trans (hb1.mono (by simp))
  clear hn hown hb1
  obtain ⟨z0, z1, z2, z3, z4⟩ := boxed_cells hm1
  have hfz := hm1.frozen
  have Y := Lib.hid (boxed_cells (op := 0) (a := 0) (b := 0) (c := 0) (i := 0) (mem_store5 hm1 rfl (.int .i64 0) (.int .i64 0) (.int .i64 0) (.int .i64 0) (.int .i64 0)))
  have hb4 := below_store5 hbw (Nat.le_refl _) (.int .i64 0) (.int .i64 0) (.int .i64 0) (.int .i64 0) (.int .i64 0)
  clear hm1
  go_wp2
  refine bodyPost_ret (v := .tuple #[insJ (jumpOf ((words s).map bts)), .string (nameJ (jumpOf ((words s).map bts))), .bool (jumpOf ((words s).map bts)).isSome]) ?_ rfl ⟨hb4, rfl⟩
  rw [HJ.out]
  simp [results, Tryz.results86, go_sem, insJ, nameJ, Y.out.1, Y.out.2.1, Y.out.2.2.1, Y.out.2.2.2.1, Y.out.2.2.2.2]
theorem jump_name_none {ws : List (List UInt8)} {n : List UInt8} (h : isName n = false) : jumpOf (ws ++ [n]) = none := by
  cases hj : jumpOf (ws ++ [n]) with
  | none => rfl
  | some x =>
    obtain ⟨k, q, m⟩ := x
    have key : ∀ (W : List (List UInt8)), ws ++ [n] = W ++ [m] → n = m := fun W e => by
      obtain ⟨_, e2⟩ := List.append_inj' e rfl
      injection e2
    unfold jumpOf at hj
    split at hj
    · rename_i j n' e
      obtain rfl : n = n' := by
        have := List.append_inj' (show ws ++ [n] = [j] ++ [n'] from e) rfl
        injection this.2
      rw [if_neg (by rw [h]; simp)] at hj
      cases hj
    · rename_i z r n' e
      obtain rfl : n = n' := by
        have := List.append_inj' (show ws ++ [n] = [z, r] ++ [n'] from e) rfl
        injection this.2
      rw [if_neg (by rw [h]; simp)] at hj
      cases hj
    · cases hj
theorem a_njump_unnamed (s : ByteArray) (hs : s.size ≤ 100000) (ws : List ByteArray) (x : ByteArray) (hw : words s = ws ++ [x]) (hx : isName (bts x) = false) (w : World) : Calls Tryz.prog 86 #[.string s] w fun e w' => NJumpIs s w e w' := by
  have HJ := Lib.hid (show jumpOf ((words s).map bts) = none by rw [hw, List.map_append]; exact jump_name_none hx)
  have hxs : x.size ≤ 100000 := by have := words_size s x (by rw [hw]; simp); omega
  have HN := Lib.hid (show (words s).length = ws.length + 1 by rw [hw]; simp)
  have HG := Lib.hid (show ∀ n, n = ws.length + 1 → ((words s).map Value.string)[n - 1]? = some (.string x) by
    rintro n rfl
    rw [hw, List.map_append, List.getElem?_append_right (by simp)]
    simp)
  have HW := Lib.hid (words_len s)
  have HX := Lib.hid hx
  clear hw hx
  go_enter Tryz.func86, Tryz.ntmps86
  go_wp2_with fail
  refine (a_fieldsJ s hs _).mono ?_
  rintro e w1 ⟨A, n, rfl, hn, hA, hown, hb1⟩
  have hn1 : 1 ≤ n := by rw [hn, HN.out]; omega
  have hn2 : n ≤ 100001 := by rw [hn]; have := HW.out; omega
  have hcell : w1.cell? ⟨A, n - 1, none⟩ = some (.string x) := (hown.cellAt (n - 1) (by omega)).trans (HG.out n (hn.trans HN.out))
  have hm1 := (Mem.new w 40 (boxed 0 0 0 0 0)).below hb1 (by simp)
  have hbw := (below_new w (.cells (boxed 0 0 0 0 0) 40)).trans (hb1.mono (by simp))
  clear hn hown hb1
  obtain ⟨z0, z1, z2, z3, z4⟩ := boxed_cells hm1
  have hfz := hm1.frozen
  have Y := Lib.hid (boxed_cells (op := 0) (a := 0) (b := 0) (c := 0) (i := 0) (mem_store5 hm1 rfl (.int .i64 0) (.int .i64 0) (.int .i64 0) (.int .i64 0) (.int .i64 0)))
  have hb4 := below_store5 hbw (Nat.le_refl _) (.int .i64 0) (.int .i64 0) (.int .i64 0) (.int .i64 0) (.int .i64 0)
  clear hm1
  go_wp2_with (go_at_call 85; refine (a_isName _ _ HX.out hxs _).mono ?_; rintro e w1 ⟨rfl, rfl⟩)
  refine bodyPost_ret (v := .tuple #[insJ (jumpOf ((words s).map bts)), .string (nameJ (jumpOf ((words s).map bts))), .bool (jumpOf ((words s).map bts)).isSome]) ?_ rfl ⟨hb4, rfl⟩
  rw [HJ.out]
  simp [results, Tryz.results86, go_sem, insJ, nameJ, Y.out.1, Y.out.2.1, Y.out.2.2.1, Y.out.2.2.2.1, Y.out.2.2.2.2]
def zeroS : ByteArray := ⟨#[48]⟩
/-- The text that is parsed in the line's place. -/
def jText (ws : List ByteArray) : ByteArray := mk (Lib.join ((ws.map bts) ++ [[48]]) [32])
theorem a_njump_named (s : ByteArray) (hs : s.size ≤ 100000) (ws : List ByteArray) (x : ByteArray) (hw : words s = ws ++ [x]) (hx : isName (bts x) = true) (w : World) (h : Env w) : Calls Tryz.prog 86 #[.string s] w fun e w' => NJumpIs s w e w' := by
  have hnice : ∀ y ∈ ws.map bts ++ [bts x], Nice y := by
    have := wordsL_nice (bts s)
    rw [← words_list, hw, List.map_append] at this
    exact this
  have HJ := Lib.hid (show jumpOf ((words s).map bts) = asJump (parseQ (jText ws)) (bts x) by rw [hw, List.map_append]; exact (jump_as (ws.map bts) (bts x) hnice hx).symm)
  have hxs : x.size ≤ 100000 := by have := words_size s x (by rw [hw]; simp); omega
  have HN := Lib.hid (show (words s).length = ws.length + 1 by rw [hw]; simp)
  have HG := Lib.hid (show ∀ n, n = ws.length + 1 → ((words s).map Value.string)[n - 1]? = some (.string x) by
    rintro n rfl
    rw [hw, List.map_append, List.getElem?_append_right (by simp)]
    simp)
  have HS := Lib.hid (show ∀ n, n = ws.length + 1 → ((words s).map Value.string).set (n - 1) (.string zeroS) = (ws ++ [zeroS]).map Value.string by
    rintro n rfl
    rw [hw, List.map_append, List.map_append, show ws.length + 1 - 1 = (ws.map Value.string).length by simp, List.set_append_right _ _ (Nat.le_refl _)]
    simp)
  have HW := Lib.hid (words_len s)
  have HX := Lib.hid hx
  have HZ := Lib.hid (show (Lib.join ((ws ++ [zeroS]).map (·.data.toList)) [32]).length ≤ 140737488355328 by
    have h1 := join_len [32] 100000 ((ws ++ [zeroS]).map (·.data.toList)) (fun y hy => by
      obtain ⟨z, hz, rfl⟩ := List.mem_map.1 hy
      rcases List.mem_append.1 hz with hz | hz
      · have := (words_size s z (by rw [hw]; simp [hz])).2
        show (bts z).length ≤ _
        rw [bytes_len]; omega
      · rw [List.mem_singleton] at hz
        subst hz
        decide)
    have h2 : ws.length + 1 ≤ 100001 := by have := words_len s; rw [hw, List.length_append, List.length_singleton] at this; omega
    simp only [List.length_map, List.length_append, List.length_singleton] at h1
    have h3 : (ws.length + 1) * (100000 + 1) ≤ 100001 * (100000 + 1) := Nat.mul_le_mul_right _ h2
    omega)
  have HT := Lib.hid (show (⟨(Lib.join ((ws ++ [zeroS]).map (·.data.toList)) [32]).toArray⟩ : ByteArray) = jText ws by
    unfold jText mk
    rw [List.map_append]
    rfl)
  clear hw hx hnice
  go_enter Tryz.func86, Tryz.ntmps86
  go_wp2_with fail
  refine (a_fieldsJ s hs _).mono ?_
  rintro e w1 ⟨A, n, rfl, hn, hA, hown, hb1⟩
  have hnw : n = ws.length + 1 := hn.trans HN.out
  have HNW := Lib.hid hnw
  have hn1 : 1 ≤ n := by omega
  have hn2 : n ≤ 100001 := by rw [hn]; have := HW.out; omega
  have hcell : w1.cell? ⟨A, n - 1, none⟩ = some (.string x) := (hown.cellAt (n - 1) (by omega)).trans (HG.out n hnw)
  have hfz := hown.frozenAt (n - 1)
  have hst := (hown.stored (n - 1) (.string zeroS)).1
  rw [HS.out n hnw] at hst
  have hAl := (hown.lt A rfl).2
  have hE1 := (h.alloc (.cells (boxed 0 0 0 0 0) 40)).below hb1
  have hm1 := (Mem.new w 40 (boxed 0 0 0 0 0)).below hb1 (by simp)
  have hA2 : w.heap.size + 1 ≤ A := by rwa [size_new] at hA
  have hm2 := hm1.far (a := ⟨A, n - 1, none⟩) (by simp; omega) (.string zeroS)
  have hbw := (below_new w (.cells (boxed 0 0 0 0 0) 40)).trans (hb1.mono (by simp))
  have hb2 := hbw.setCell (p := ⟨A, n - 1, none⟩) (by simp; omega) (.string zeroS)
  have hE2 : Env (w1.setCell ⟨A, n - 1, none⟩ (.string zeroS)) := h.below hb2
  have hH2 : ∀ (j : Nat) y, (ws ++ [zeroS])[j]? = some y → (w1.setCell ⟨A, n - 1, none⟩ (.string zeroS)).cell? ⟨A, 0 + j, none⟩ = some (.string y) := fun j y hy => by
    have hj : j < n := by
      have := (List.getElem?_eq_some_iff.1 hy).1
      simp at this; omega
    rw [Nat.zero_add]
    refine (hst.cellAt j (by omega)).trans ?_
    rw [List.getElem?_map, hy]; rfl
  have hAl2 : A < (w1.setCell ⟨A, n - 1, none⟩ (.string zeroS)).heap.size := by simpa [World.setCell] using hAl
  have HH := Lib.hid hH2
  clear hn hown hb1 hnw hst hH2 hE1 hm1 hbw
  go_wp2_with (go_at_call 85; refine (a_isName _ _ HX.out hxs _).mono ?_; rintro e w1 ⟨rfl, rfl⟩)
  have hjn := Tryz.strings_Join A 0 n (ws ++ [zeroS]) ⟨#[32]⟩ (w1.setCell ⟨A, n - 1, none⟩ (.string zeroS)) HH.out hAl2 (by rw [List.length_append, List.length_singleton, ← HNW.out]; omega) (by rw [List.length_append, List.length_singleton, ← HNW.out]; omega) HZ.out
  rw [List.length_append, List.length_singleton, ← HNW.out] at hjn
  refine hjn.mono ?_
  rintro e w3 ⟨rfl, hb3⟩
  have hjs := HT.out
  rw [show (⟨#[32]⟩ : ByteArray).data.toList = [32] from rfl, hjs]
  have hE3 := hE2.below hb3
  have hm3 := hm2.below hb3 (by simp [World.setCell]; omega)
  have hbw3 := below_trans2 hb2 hb3
  clear hb3 hE2 hm2 hb2 hjs hjn
  go_wp2_with fail
  refine (a_parse _ _ hE3).mono ?_
  rintro e w4 ⟨hb4, rfl⟩
  have hE4 := hE3.below hb4
  have hm4 := hm3.below hb4 hm3.lt
  have hbw4 := below_trans2 hbw3 hb4
  clear hb4 hE3 hm3 hbw3
  cases hp : parseQ (jText ws) with
  | none =>
    have HJ2 := Lib.hid (show jumpOf ((words s).map bts) = none by rw [HJ.out, hp]; rfl)
    have hpe : (parseE (jText ws) != 0) = true := by rw [bne_iff_ne]; exact parse_none hp
    have HK := Lib.hid (show skipsB 0 0 0 0 0 = false by decide +kernel)
    have HK2 := Lib.hid (show skipsV 0 0 0 0 0 = 0 by decide +kernel)
    have e1 : insR (none : Option (Nat × Fields)) = ins 0 0 0 0 0 := rfl
    rw [e1]
    clear hp e1
    go_wp2_with fail
    refine (a_skips_v 0 0 0 0 0 0 false HK.out HK2.out _ (hE4.alloc _)).mono ?_
    rintro e w5 ⟨rfl, hb5⟩
    have hm5 := (hm4.alloc _).below hb5 (by simp; have := hm4.lt; omega)
    have hbw5 := below_trans2 (hbw4.alloc hbw4.size _) hb5
    clear hb5 hE4 hm4 hbw4
    obtain ⟨z0, z1, z2, z3, z4⟩ := boxed_cells hm5
    have hfz5 := hm5.frozen
    have Y := Lib.hid (boxed_cells (op := 0) (a := 0) (b := 0) (c := 0) (i := 0) (mem_store5 hm5 rfl (.int .i64 0) (.int .i64 0) (.int .i64 0) (.int .i64 0) (.int .i64 0)))
    have hb6 := below_store5 hbw5 (Nat.le_refl _) (.int .i64 0) (.int .i64 0) (.int .i64 0) (.int .i64 0) (.int .i64 0)
    clear hm5 hcell hfz
    go_wp2
    refine bodyPost_ret (v := .tuple #[insJ (jumpOf ((words s).map bts)), .string (nameJ (jumpOf ((words s).map bts))), .bool (jumpOf ((words s).map bts)).isSome]) ?_ rfl ⟨hb6, rfl⟩
    rw [HJ2.out]
    simp [results, Tryz.results86, go_sem, insJ, nameJ, Y.out.1, Y.out.2.1, Y.out.2.2.1, Y.out.2.2.2.1, Y.out.2.2.2.2]
  | some r =>
    obtain ⟨k, q⟩ := r
    obtain ⟨h0, hck, hk⟩ := parse_some hp
    have e1 : insR (some (k, q)) = ins k q.a q.b q.c q.i := rfl
    rw [e1, h0]
    cases hsk : skipsB k q.a q.b q.c q.i with
    | false =>
      have HJ2 := Lib.hid (show jumpOf ((words s).map bts) = none by rw [HJ.out, hp]; unfold asJump; simp only; rw [hsk, if_neg (by simp)])
      have HK := Lib.hid hsk
      have HK2 := Lib.hid (show skipsV k q.a q.b q.c q.i = 0 by unfold skipsV; rw [hsk, if_neg (by simp)])
      clear hp e1 h0 hck hsk
      go_wp2_with fail
      refine (a_skips_v k q.a q.b q.c q.i 0 false HK.out HK2.out _ (hE4.alloc _)).mono ?_
      rintro e w5 ⟨rfl, hb5⟩
      have hm5 := (hm4.alloc _).below hb5 (by simp; have := hm4.lt; omega)
      have hbw5 := below_trans2 (hbw4.alloc hbw4.size _) hb5
      clear hb5 hE4 hm4 hbw4
      obtain ⟨z0, z1, z2, z3, z4⟩ := boxed_cells hm5
      have hfz5 := hm5.frozen
      have Y := Lib.hid (boxed_cells (op := 0) (a := 0) (b := 0) (c := 0) (i := 0) (mem_store5 hm5 rfl (.int .i64 0) (.int .i64 0) (.int .i64 0) (.int .i64 0) (.int .i64 0)))
      have hb6 := below_store5 hbw5 (Nat.le_refl _) (.int .i64 0) (.int .i64 0) (.int .i64 0) (.int .i64 0) (.int .i64 0)
      clear hm5 hcell hfz
      go_wp2
      refine bodyPost_ret (v := .tuple #[insJ (jumpOf ((words s).map bts)), .string (nameJ (jumpOf ((words s).map bts))), .bool (jumpOf ((words s).map bts)).isSome]) ?_ rfl ⟨hb6, rfl⟩
      rw [HJ2.out]
      simp [results, Tryz.results86, go_sem, insJ, nameJ, Y.out.1, Y.out.2.1, Y.out.2.2.1, Y.out.2.2.2.1, Y.out.2.2.2.2]
    | true =>
      have HJ2 := Lib.hid (show jumpOf ((words s).map bts) = some (k, q, bts x) by rw [HJ.out, hp]; unfold asJump; simp only; rw [hsk, if_pos rfl])
      have HK := Lib.hid hsk
      have HK2 := Lib.hid (show skipsV k q.a q.b q.c q.i = q.i by unfold skipsV; rw [hsk, if_pos rfl])
      clear hp e1 h0 hck hsk
      go_wp2_with fail
      refine (a_skips_v k q.a q.b q.c q.i q.i true HK.out HK2.out _ (hE4.alloc _)).mono ?_
      rintro e w5 ⟨rfl, hb5⟩
      have hm5 := (hm4.alloc _).below hb5 (by simp; have := hm4.lt; omega)
      have hq5 := (Mem.new w4 40 (boxed k q.a q.b q.c q.i)).below hb5 (by simp)
      have hbw5 := below_trans2 (hbw4.alloc hbw4.size _) hb5
      clear hb5 hE4 hm4 hbw4
      obtain ⟨z0, z1, z2, z3, z4⟩ := boxed_cells hm5
      obtain ⟨y0, y1, y2, y3, y4⟩ := boxed_cells hq5
      have hfz5 := hm5.frozen
      have Y := Lib.hid (boxed_cells (op := k) (a := q.a) (b := q.b) (c := q.c) (i := q.i) (mem_store5 hm5 rfl (.int .i64 k) (.int .i64 q.a) (.int .i64 q.b) (.int .i64 q.c) (.int .i64 q.i)))
      have hb6 := below_store5 hbw5 (Nat.le_refl _) (.int .i64 k) (.int .i64 q.a) (.int .i64 q.b) (.int .i64 q.c) (.int .i64 q.i)
      clear hm5 hcell hfz hq5
      go_wp2
      refine bodyPost_ret (v := .tuple #[insJ (jumpOf ((words s).map bts)), .string (nameJ (jumpOf ((words s).map bts))), .bool (jumpOf ((words s).map bts)).isSome]) ?_ rfl ⟨hb6, rfl⟩
      rw [HJ2.out]
      have hmk : mk (bts x) = x := mk_bts x
      simp [results, Tryz.results86, go_sem, insJ, nameJ, hmk, Y.out.1, Y.out.2.1, Y.out.2.2.1, Y.out.2.2.2.1, Y.out.2.2.2.2]
theorem a_namedJump (s : ByteArray) (hs : s.size ≤ 100000) (w : World) (h : Env w) : Calls Tryz.prog 86 #[.string s] w fun e w' => NJumpIs s w e w' := by
  rcases List.eq_nil_or_concat (words s) with hw | ⟨ws, x, hw⟩
  · exact a_njump_nil s hs hw w
  · rw [List.concat_eq_append] at hw
    cases hx : isName (bts x) with
    | false => exact a_njump_unnamed s hs ws x hw hx w
    | true => exact a_njump_named s hs ws x hw hx w h

/-! ### An instruction. -/
def InstrIs (s : ByteArray) (w : World) (e : Ending) (w' : World) : Prop :=
  Below w.heap.size w w' ∧ e = .returned (match jumpOf ((words s).map bts) with | some (k, q, n) => .tuple #[ins k q.a q.b q.c q.i, .string (mk n), .int .i64 0] | none => .tuple #[insR (parseQ s), .string ⟨#[]⟩, .int .i64 (parseE s)])
theorem insR_ex (r : Option (Nat × Fields)) : ∃ k a b c i : Int, insR r = ins k a b c i := by
  cases r with
  | none => exact ⟨0, 0, 0, 0, 0, rfl⟩
  | some x => exact ⟨x.1, x.2.a, x.2.b, x.2.c, x.2.i, rfl⟩
theorem a_instruction (s : ByteArray) (hs : s.size ≤ 100000) (w : World) (h : Env w) : Calls Tryz.prog 52 #[.string s] w fun e w' => InstrIs s w e w' := by
  cases hj : jumpOf ((words s).map bts) with
  | some r =>
    obtain ⟨k, q, n⟩ := r
    have HJ := Lib.hid hj
    clear hj
    go_enter Tryz.func52, Tryz.ntmps52
    go_wp2_with fail
    refine (a_namedJump s hs _ (h.alloc _)).mono ?_
    rintro e w1 ⟨hb1, rfl⟩
    rw [HJ.out]
    have hm1 := (Mem.new w 40 (boxed 0 0 0 0 0)).below hb1 (by simp)
    have hbw := (below_new w (.cells #[.int .i64 0, .int .i64 0, .int .i64 0, .int .i64 0, .int .i64 0] 40)).trans (hb1.mono (by simp))
    obtain ⟨z0, z1, z2, z3, z4⟩ := boxed_cells hm1
    have hfz := hm1.frozen
    have Y := Lib.hid (fun o => boxed_cells (op := k) (a := q.a) (b := q.b) (c := q.c) (i := q.i) ((mem_store5 hm1 rfl (.int .i64 k) (.int .i64 q.a) (.int .i64 q.b) (.int .i64 q.c) (.int .i64 q.i)).alloc o))
    have hb6 := below_store5 hbw (Nat.le_refl _) (.int .i64 k) (.int .i64 q.a) (.int .i64 q.b) (.int .i64 q.c) (.int .i64 q.i)
    have hlt := hm1.lt
    clear hm1 hb1 hbw
    rw [show insJ (some (k, q, n)) = ins k q.a q.b q.c q.i from rfl, show nameJ (some (k, q, n)) = mk n from rfl, show (some (k, q, n)).isSome = true from rfl]
    go_wp2
    refine bodyPost_ret (v := (match some (k, q, n) with | some (k, q, n) => .tuple #[ins k q.a q.b q.c q.i, .string (mk n), .int .i64 0] | none => .tuple #[insR (parseQ s), .string ⟨#[]⟩, .int .i64 (parseE s)])) ?_ rfl ⟨hb6.alloc (by simp; omega) _, by rw [HJ.out]⟩
    simp [results, Tryz.results52, go_sem, (Y.out _).1, (Y.out _).2.1, (Y.out _).2.2.1, (Y.out _).2.2.2.1, (Y.out _).2.2.2.2]
  | none =>
    have HJ := Lib.hid hj
    clear hj
    go_enter Tryz.func52, Tryz.ntmps52
    go_wp2_with fail
    refine (a_namedJump s hs _ (h.alloc _)).mono ?_
    rintro e w1 ⟨hb1, rfl⟩
    rw [HJ.out]
    have hm1 := (Mem.new w 40 (boxed 0 0 0 0 0)).below hb1 (by simp)
    have hbw := (below_new w (.cells #[.int .i64 0, .int .i64 0, .int .i64 0, .int .i64 0, .int .i64 0] 40)).trans (hb1.mono (by simp))
    have hE1 := ((h.alloc (.cells #[.int .i64 0, .int .i64 0, .int .i64 0, .int .i64 0, .int .i64 0] 40)).below hb1).alloc (.cells #[.int .i64 0, .int .i64 0, .int .i64 0, .int .i64 0, .int .i64 0] 40)
    have hm2 := hm1.alloc (.cells #[.int .i64 0, .int .i64 0, .int .i64 0, .int .i64 0, .int .i64 0] 40)
    have hbw2 := hbw.alloc hbw.size (.cells #[.int .i64 0, .int .i64 0, .int .i64 0, .int .i64 0, .int .i64 0] 40)
    clear hm1 hb1 hbw
    rw [show insJ none = ins 0 0 0 0 0 from rfl, show nameJ none = ⟨#[]⟩ from rfl, show (none : Option (Nat × Fields × List UInt8)).isSome = false from rfl]
    go_wp2_with fail
    refine (a_parse _ _ hE1).mono ?_
    rintro e w4 ⟨hb4, rfl⟩
    have hm4 := hm2.below hb4 hm2.lt
    have hbw4 := below_trans2 hbw2 hb4
    obtain ⟨k, a, b, c, i, hr⟩ := insR_ex (parseQ s)
    have HR := Lib.hid hr
    rw [hr]
    obtain ⟨z0, z1, z2, z3, z4⟩ := boxed_cells hm4
    have hfz := hm4.frozen
    have Y := Lib.hid (fun o => boxed_cells (op := k) (a := a) (b := b) (c := c) (i := i) ((mem_store5 hm4 rfl (.int .i64 k) (.int .i64 a) (.int .i64 b) (.int .i64 c) (.int .i64 i)).alloc o))
    have hb6 := below_store5 hbw4 (Nat.le_refl _) (.int .i64 k) (.int .i64 a) (.int .i64 b) (.int .i64 c) (.int .i64 i)
    have hlt := hm4.lt
    clear hr hm2 hm4 hb4 hbw2 hbw4 hE1
    go_wp2
    refine bodyPost_ret (v := .tuple #[insR (parseQ s), .string ⟨#[]⟩, .int .i64 (parseE s)]) ?_ rfl ⟨hb6.alloc (by simp; omega) _, by rw [HJ.out]⟩
    rw [HR.out]
    simp [results, Tryz.results52, go_sem, (Y.out _).1, (Y.out _).2.1, (Y.out _).2.2.1, (Y.out _).2.2.2.1, (Y.out _).2.2.2.2]
end Go.Proofs.YtcplhochgngedaaGreatDoor.AsmB
