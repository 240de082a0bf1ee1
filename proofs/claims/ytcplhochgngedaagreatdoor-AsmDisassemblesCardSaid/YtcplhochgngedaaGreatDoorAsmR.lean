/-
  Contract of the assembler's read (package asm).
-/
import Derived.Test.YtcplhochgngedaaGreatDoorAsmC
namespace Go.Proofs.YtcplhochgngedaaGreatDoor.AsmR
open Go.ChangeShapes Go.WideShapes Go.ChangeAt Go.RowKit
open PlainT IsaE IsaS BlkW IsaA IsaB IsaF IsaP IsaQ IsaX IsaL AsmS AsmA AsmB IsaR MapW AsmC
set_option linter.unusedVariables false
set_option maxHeartbeats 1000000

/-- An instruction was read: k and q, the label t (empty: none). -/
def InsRead (s : ByteArray) (k : Int) (q : Fields) (t : List UInt8) : Prop := ∀ w, Env w → Calls Tryz.prog 52 #[.string s] w fun e w' => e = .returned (.tuple #[ins k q.a q.b q.c q.i, .string (mk t), .int .i64 0]) ∧ Below w.heap.size w w'
theorem keep_mem {W : World} {g : Nat} {cs0 : Array Value} (h : Mem W g 48 cs0) : ∀ (cs : Array Value) (fr : Nat × Nat), W.heap[g]? ≠ some (.cells cs 9 fr) := by
  intro cs fr e
  unfold Mem at h
  rw [h] at e
  injection e with e
  injection e with _ e
  exact absurd e (by decide)
theorem read_full (B : Nat) (w : World) (g : Nat) (st : St) (n : Nat) (s : ByteArray) (hs : s.size ≤ 100000) (hE : EnvM w) (h : AsmOk B w g st) (ht : Lib.trimB (bts (codeOf s)) 32 ≠ []) (hI : st.items.length = 64)
    (hl : labelOf ((words (codeOf s)).map bts) = none) (k : Int) (q : Fields) (t : List UInt8) (hr : InsRead (codeOf s) k q t) (hst : stepL st n (bts s) = .err n 3) :
    Calls Tryz.prog 21 #[.pointer (some ⟨g, 0, none⟩), .string s, .int .i64 n] w fun e w' => Read4 B w g st n s e w' := by
  obtain ⟨T, hT⟩ : ∃ T, Lib.trimB (bts (codeOf s)) 32 = T := ⟨_, rfl⟩
  have HS := Lib.hid hst
  rw [hT] at ht
  have HT := Lib.hid hT
  have HL := Lib.hid hl
  have ht1 := str_nonempty ht
  have ht2 := str_nonempty2 ht
  have hc := Nat.le_trans (code_size s) hs
  have HI := Lib.hid hI
  clear ht hT hl hst hI
  go_enter Tryz.func21, Tryz.ntmps21
  go_wp2_with fail
  refine (a_cut s hs _ hE).mono ?_
  rintro e w1 ⟨x1, y1, rfl, n1, rfl⟩
  go_wp2_with fail
  refine (a_trim _ hc _).mono ?_
  rintro e w1 ⟨rfl, n2, rfl⟩
  rw [HT.out]
  go_wp2_with fail
  refine (a_label _ hc _).mono ?_
  rintro e w1 ⟨⟨n3, rfl⟩, rfl⟩
  rw [HL.out]
  simp only
  have hE3 := hE.drewN (n1 + n2 + n3)
  have hb3 := below_drewN (Below.refl B w) (n1 + n2 + n3)
  go_wp2_with fail
  refine (hr _ hE3.env).mono ?_
  rintro e w4 ⟨rfl, hb4⟩
  have h4 := (h.drewN (n1 + n2 + n3)).below hb4
  have hb5 := hb3.trans (hb4.mono h.size)
  have hk5 := ((KeepS.refl w).drewN (n1 + n2 + n3)).below hb4
  obtain ⟨vp, vj, m, h4⟩ := h4
  obtain ⟨A, c, rfl, hc1, hc2⟩ := own_slice h4.prog
  rw [List.length_map] at h4 hc1
  have h0 : w4.cell? ⟨g, 0, none⟩ = some (.slice A st.items.length c) := h4.mem.cell 0
  have q64 : ((st.items.length : Int) == 64) = true := by rw [beq_iff_eq, HI.out]; rfl
  have hgl := h4.mem.lt
  clear hb4 hE3 hr
  go_wp2
  go_ret
  exact Read4.err HS.out (hb5.alloc (Nat.le_trans h.size hb5.size) _) (hk5.alloc _) (by decide)
theorem ok_snoc {B : Nat} {w : World} {g : Nat} {st : St} {x : AItem} {vp vj : Value} {m : Nat} (h : AsmAt B w g (st.items.map insOfItem ++ [insOfItem x]) st.labels (jumpsOf 0 st.items ++ (if x.t = [] then [] else [(st.items.length, x.t, x.line)])) vp vj m) : AsmOk B w g { st with items := st.items ++ [x] } := by
  refine ⟨vp, vj, m, ?_⟩
  rw [jumpsOf_snoc, List.map_append, Nat.zero_add]
  exact h
theorem read_plain (B : Nat) (w : World) (g : Nat) (st : St) (n : Nat) (s : ByteArray) (hs : s.size ≤ 100000) (hE : EnvM w) (h : AsmOk B w g st) (ht : Lib.trimB (bts (codeOf s)) 32 ≠ []) (hI : st.items.length < 64)
    (hl : labelOf ((words (codeOf s)).map bts) = none) (k : Int) (q : Fields) (hr : InsRead (codeOf s) k q []) (hst : stepL st n (bts s) = .ok { st with items := st.items ++ [⟨k, q, [], n⟩] }) :
    Calls Tryz.prog 21 #[.pointer (some ⟨g, 0, none⟩), .string s, .int .i64 n] w fun e w' => Read4 B w g st n s e w' := by
  obtain ⟨T, hT⟩ : ∃ T, Lib.trimB (bts (codeOf s)) 32 = T := ⟨_, rfl⟩
  have HS := Lib.hid hst
  rw [hT] at ht
  have HT := Lib.hid hT
  have HL := Lib.hid hl
  have ht1 := str_nonempty ht
  have ht2 := str_nonempty2 ht
  have hc := Nat.le_trans (code_size s) hs
  clear ht hT hl hst
  go_enter Tryz.func21, Tryz.ntmps21
  go_wp2_with fail
  refine (a_cut s hs _ hE).mono ?_
  rintro e w1 ⟨x1, y1, rfl, n1, rfl⟩
  go_wp2_with fail
  refine (a_trim _ hc _).mono ?_
  rintro e w1 ⟨rfl, n2, rfl⟩
  rw [HT.out]
  go_wp2_with fail
  refine (a_label _ hc _).mono ?_
  rintro e w1 ⟨⟨n3, rfl⟩, rfl⟩
  rw [HL.out]
  simp only
  have hE3 := hE.drewN (n1 + n2 + n3)
  have hb3 := below_drewN (Below.refl B w) (n1 + n2 + n3)
  go_wp2_with fail
  refine (hr _ hE3.env).mono ?_
  rintro e w4 ⟨rfl, hb4⟩
  rw [show mk [] = ⟨#[]⟩ from rfl]
  have h4 := (h.drewN (n1 + n2 + n3)).below hb4
  have hb5 := hb3.trans (hb4.mono h.size)
  obtain ⟨vp, vj, m, h4⟩ := h4
  have h5 := h4.alloc (.cells #[.int .i64 k, .int .i64 q.a, .int .i64 q.b, .int .i64 q.c, .int .i64 q.i] 40)
  obtain ⟨v', w', hrun, hpush⟩ := push_ins h5 (by rw [List.length_map]; omega) (k, q)
  have hk6 := (((((KeepS.refl w).drewN (n1 + n2 + n3)).below hb4).alloc (.cells #[.int .i64 k, .int .i64 q.a, .int .i64 q.b, .int .i64 q.c, .int .i64 q.i] 40))).trans (hpush.keep (keep_mem h5.mem) (fun b cs fr hb e => own_ne h5.prog hb (by decide) e.symm))
  obtain ⟨⟨A', n', c', rfl⟩, hu0, hu1, hu2, hu3, hu4, hu5⟩ := hpush
  have hok : AsmOk B (w'.setCell ⟨g, 0, none⟩ (.slice A' n' c')) g { st with items := st.items ++ [⟨k, q, [], n⟩] } := ok_snoc (x := ⟨k, q, [], n⟩) (by simp only [if_true, List.append_nil]; exact hu2)
  have hb6 := (hb5.alloc (Nat.le_trans h.size hb5.size) (.cells #[.int .i64 k, .int .i64 q.a, .int .i64 q.b, .int .i64 q.c, .int .i64 q.i] 40)).trans hu3
  have hws : (w4.alloc (.cells #[.int .i64 k, .int .i64 q.a, .int .i64 q.b, .int .i64 q.c, .int .i64 q.i] 40)).heap.size = w4.heap.size + 1 := size_new _ _
  rw [hws] at hrun
  obtain ⟨A, c, rfl, hc1, hc2⟩ := own_slice h4.prog
  rw [List.length_map] at h4 hc1 hrun hu0 
  have h0 : w4.cell? ⟨g, 0, none⟩ = some (.slice A st.items.length c) := h4.mem.cell 0
  have hgl := h4.mem.lt
  have q64 : ((st.items.length : Int) == 64) = false := by rw [beq_eq_false_iff_ne]; omega
  clear hb4 hE3 hr h4 h5 hu2 hu3 hu4 hu5 hb5 hb3 hws
  go_wp2
  go_region_law (refine step_append_run rfl _ _ 23 rfl _ _ _ _ rfl rfl hrun ?_)
  all_goals
    go_wp2
    go_ret
    exact Read4.ok HS.out hb6 hk6 hok
theorem read_named (B : Nat) (w : World) (g : Nat) (st : St) (n : Nat) (hn : n ≤ 100000) (s : ByteArray) (hs : s.size ≤ 100000) (hE : EnvM w) (h : AsmOk B w g st) (ht : Lib.trimB (bts (codeOf s)) 32 ≠ []) (hI : st.items.length < 64)
    (hl : labelOf ((words (codeOf s)).map bts) = none) (k : Int) (q : Fields) (t : List UInt8) (htn : t ≠ []) (hr : InsRead (codeOf s) k q t) (hst : stepL st n (bts s) = .ok { st with items := st.items ++ [⟨k, q, t, n⟩] }) :
    Calls Tryz.prog 21 #[.pointer (some ⟨g, 0, none⟩), .string s, .int .i64 n] w fun e w' => Read4 B w g st n s e w' := by
  obtain ⟨T, hT⟩ : ∃ T, Lib.trimB (bts (codeOf s)) 32 = T := ⟨_, rfl⟩
  have HS := Lib.hid hst
  rw [hT] at ht
  have HT := Lib.hid hT
  have HL := Lib.hid hl
  have ht1 := str_nonempty ht
  have ht2 := str_nonempty2 ht
  have htn1 := str_nonempty htn
  have htn2 := str_nonempty2 htn
  have HTN := Lib.hid htn
  have hc := Nat.le_trans (code_size s) hs
  clear ht hT hl hst htn
  go_enter Tryz.func21, Tryz.ntmps21
  go_wp2_with fail
  refine (a_cut s hs _ hE).mono ?_
  rintro e w1 ⟨x1, y1, rfl, n1, rfl⟩
  go_wp2_with fail
  refine (a_trim _ hc _).mono ?_
  rintro e w1 ⟨rfl, n2, rfl⟩
  rw [HT.out]
  go_wp2_with fail
  refine (a_label _ hc _).mono ?_
  rintro e w1 ⟨⟨n3, rfl⟩, rfl⟩
  rw [HL.out]
  simp only
  have hE3 := hE.drewN (n1 + n2 + n3)
  have hb3 := below_drewN (Below.refl B w) (n1 + n2 + n3)
  go_wp2_with fail
  refine (hr _ hE3.env).mono ?_
  rintro e w4 ⟨rfl, hb4⟩
  have h4 := (h.drewN (n1 + n2 + n3)).below hb4
  have hb5 := hb3.trans (hb4.mono h.size)
  obtain ⟨vp, vj, m, h4⟩ := h4
  have h5 := h4.alloc (.cells #[.int .i64 k, .int .i64 q.a, .int .i64 q.b, .int .i64 q.c, .int .i64 q.i] 40)
  have hws : (w4.alloc (.cells #[.int .i64 k, .int .i64 q.a, .int .i64 q.b, .int .i64 q.c, .int .i64 q.i] 40)).heap.size = w4.heap.size + 1 := size_new _ _
  have hgl := h4.mem.lt
  have hq5 : Mem (w4.alloc (.cells #[.int .i64 k, .int .i64 q.a, .int .i64 q.b, .int .i64 q.c, .int .i64 q.i] 40)) w4.heap.size 40 #[.int .i64 k, .int .i64 q.a, .int .i64 q.b, .int .i64 q.c, .int .i64 q.i] := Mem.new _ _ _
  obtain ⟨v', w', hrun, hpush⟩ := push_jump h5 (by have := jumpsOf_le st.items 0; omega) (st.items.length, t, n)
  have hk6 := (((((KeepS.refl w).drewN (n1 + n2 + n3)).below hb4).alloc (.cells #[.int .i64 k, .int .i64 q.a, .int .i64 q.b, .int .i64 q.c, .int .i64 q.i] 40))).trans (hpush.keep (keep_mem h5.mem) (fun b cs fr hb e => own_ne h5.jumps hb (by decide) e.symm))
  obtain ⟨⟨A', n', c', rfl⟩, hu0, hu1, hu2, hu3, hu4, hu5⟩ := hpush
  have hq6 : Mem (w'.setCell ⟨g, 2, none⟩ (.slice A' n' c')) w4.heap.size 40 #[.int .i64 k, .int .i64 q.a, .int .i64 q.b, .int .i64 q.c, .int .i64 q.i] := (hu5 w4.heap.size (by rw [hws]; omega) (by omega) (fun e => own_ne_mem h5.jumps hq5 (by decide) e.symm)).trans hq5
  have hb6 := (hb5.alloc (Nat.le_trans h.size hb5.size) (.cells #[.int .i64 k, .int .i64 q.a, .int .i64 q.b, .int .i64 q.c, .int .i64 q.i] 40)).trans hu3
  obtain ⟨v2, w2, hrun2, hpush2⟩ := push_ins hu2 (by rw [List.length_map]; omega) (k, q)
  have hk7 := hk6.trans (hpush2.keep (keep_mem hu2.mem) (fun b cs fr hb e => own_ne hu2.prog hb (by decide) e.symm))
  obtain ⟨⟨A2, n2', c2, rfl⟩, hv0, hv1, hv2, hv3, hv4, hv5⟩ := hpush2
  have hok : AsmOk B (w2.setCell ⟨g, 0, none⟩ (.slice A2 n2' c2)) g { st with items := st.items ++ [⟨k, q, t, n⟩] } := ok_snoc (x := ⟨k, q, t, n⟩) (by rw [if_neg HTN.out]; exact hv2)
  have hb7 := hb6.trans hv3
  rw [hws] at hrun
  rw [show (w'.setCell ⟨g, 2, none⟩ (.slice A' n' c')).heap.size = w'.heap.size by simp [World.setCell]] at hrun2
  obtain ⟨z0, z1, z2, z3, z4⟩ := boxed_cells hq6
  obtain ⟨Ap, cp, rfl, hcp1, hcp2⟩ := own_slice h4.prog
  rw [List.length_map] at h4 hcp1 hrun2 hv0 hu2
  obtain ⟨Aj, cj, rfl, hcj1, hcj2⟩ := own_slice h4.jumps
  have hjl := jumpsOf_le st.items 0
  have h0 : w4.cell? ⟨g, 0, none⟩ = some (.slice Ap st.items.length cp) := h4.mem.cell 0
  have h2 : w4.cell? ⟨g, 2, none⟩ = some (.slice Aj (jumpsOf 0 st.items).length cj) := h4.mem.cell 2
  have g0 : (w'.setCell ⟨g, 2, none⟩ (.slice A' n' c')).cell? ⟨g, 0, none⟩ = some (.slice Ap st.items.length cp) := hu2.mem.cell 0
  have q64 : ((st.items.length : Int) == 64) = false := by rw [beq_eq_false_iff_ne]; omega
  have hgl2 : g < w'.heap.size := by have := hu2.mem.lt; simpa [World.setCell] using this
  clear hb4 hE3 hr h4 h5 hu2 hu3 hu4 hu5 hb5 hb3 hws hq5 hq6 hv2 hv3 hv4 hv5 hb6
  go_wp2
  go_region_law (refine step_append_run rfl _ _ 46 rfl _ _ _ _ rfl rfl hrun ?_)
  all_goals
    go_wp2
    go_region_law (refine step_append_run rfl _ _ 23 rfl _ _ _ _ rfl rfl hrun2 ?_)
    all_goals
      go_wp2
      go_ret
      exact Read4.ok HS.out hb7 hk7 hok
/-- read returns the error of the line and keeps the instructions, labels and jumps. -/
theorem a_read4 (B : Nat) (w : World) (g : Nat) (st : St) (n : Nat) (hn : n ≤ 100000) (s : ByteArray) (hs : s.size ≤ 100000) (hE : EnvM w) (h : AsmOk B w g st) (hI : st.items.length ≤ 64) (hL : st.labels.length < 100000) :
    Calls Tryz.prog 21 #[.pointer (some ⟨g, 0, none⟩), .string s, .int .i64 n] w fun e w' => Read4 B w g st n s e w' := by
  by_cases ht : Lib.trimB (bts (codeOf s)) 32 = []
  · exact read_empty B w g st n s hs hE h ht
  · have hk := step_kind (st := st) (n := n) ht
    cases hl : labelOf ((words (codeOf s)).map bts) with
    | some x => exact read_label B w g st n s hs hE h ht hI hL x hl
    | none =>
      rw [hl] at hk
      simp only at hk
      have hc := Nat.le_trans (code_size s) hs
      cases hj : jumpOf ((words (codeOf s)).map bts) with
      | some r =>
        obtain ⟨k, q, x⟩ := r
        rw [hj] at hk
        simp only at hk
        have hx : x ≠ [] := (isName_all (jump_name hj)).1
        have hr : InsRead (codeOf s) k q x := fun w hw => (a_instruction _ hc w hw).mono fun e w' ⟨hb, he⟩ => ⟨by rw [he, hj], hb⟩
        by_cases h64 : st.items.length = 64
        · rw [if_pos h64] at hk
          exact read_full B w g st n s hs hE h ht h64 hl k q x hr hk
        · rw [if_neg h64] at hk
          exact read_named B w g st n hn s hs hE h ht (by omega) hl k q x hx hr hk
      | none =>
        rw [hj] at hk
        simp only at hk
        cases hp : parseQ (codeOf s) with
        | none => exact read_bad B w g st n s hs hE h ht hl hj hp
        | some r =>
          obtain ⟨k, q⟩ := r
          rw [hp] at hk
          simp only at hk
          have hr : InsRead (codeOf s) k q [] := fun w hw => (a_instruction _ hc w hw).mono fun e w' ⟨hb, he⟩ => ⟨by rw [he, hj]; simp only; rw [hp, (parse_some hp).1]; rfl, hb⟩
          by_cases h64 : st.items.length = 64
          · rw [if_pos h64] at hk
            exact read_full B w g st n s hs hE h ht h64 hl k q [] hr hk
          · rw [if_neg h64] at hk
            exact read_plain B w g st n s hs hE h ht (by omega) hl k q hr hk
end Go.Proofs.YtcplhochgngedaaGreatDoor.AsmR
